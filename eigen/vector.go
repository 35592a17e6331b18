package eigen

import (
	"slices"

	"halfplane/api"
	"halfplane/matrix"
	"halfplane/qpoly"
	"halfplane/rational"
	"halfplane/zpoly"
)

// eigenvector returns the vector v over the number field k with v * a = x * v whose first
// element other than 0 is 1.
//
// The vectors over k correspond to those w of rational numbers with w * f(a) = 0: w
// consists of the coordinates of v that belong to the highest power of x. The field acts
// on these vectors by x -> a, so that their dimension is that over k times the degree.
func eigenvector(a api.Matrix, k api.Field) ([]api.Elem, api.Errno) {
	f := qpoly.Of(k.Modulus)
	kernel, _ := matrix.Kernel(at(f, a))
	switch degree := qpoly.Degree(f); {
	case kernel.Rows == 0:
		return nil, api.ErrMember
	case kernel.Rows > degree:
		return nil, api.ErrDiffer
	}
	w, _ := matrix.Row(kernel, 0)
	c := &calculator{field: k}
	return c.divided(elements(quotient(f, a, w))), api.OK
}

// at returns f(a), also for a matrix that is too large for layer 11.
func at(f api.Poly, a api.Matrix) api.Matrix {
	m, _ := matrix.New(a.Rows, a.Rows)
	one, _ := matrix.Identity(a.Rows)
	for _, c := range slices.Backward(f) {
		m, _ = matrix.Mul(a, m)
		term, _ := matrix.Scale(one, c)
		m, _ = matrix.Add(m, term)
	}
	return m
}

// quotient returns the coefficients of w * (f(x) - f(a)) / (x - a), a polynomial in x, for
// a monic f. If w * f(a) is 0, its product with x - a is 0 modulo f.
func quotient(f api.Poly, a api.Matrix, w []api.Rat) [][]api.Rat {
	l := make([][]api.Rat, qpoly.Degree(f))
	row := w
	for i := len(l) - 1; i >= 0; i-- {
		l[i] = row
		row, _ = matrix.Apply(row, a)
		for j, x := range w {
			row[j] = rational.Add(row[j], rational.Mul(f[i], x))
		}
	}
	return l
}

// elements returns the vector whose elements have the coordinates that are the elements
// of the rows.
func elements(rows [][]api.Rat) []api.Elem {
	v := make([]api.Elem, len(rows[0]))
	for i := range v {
		for _, row := range rows {
			v[i] = append(v[i], row[i])
		}
	}
	return v
}

// divided returns the vector v, which is not 0, divided by its first element other than 0.
func (c *calculator) divided(v []api.Elem) []api.Elem {
	for i, x := range v {
		v[i] = c.normal(x)
	}
	first := slices.IndexFunc(v, func(x api.Elem) bool { return len(x) > 0 })
	c.scale(v, first)
	return v
}

// isEigenvector reports whether v is not 0 and v * a = x * v.
func isEigenvector(a api.Matrix, k api.Field, v []api.Elem) bool {
	c := &calculator{field: k}
	multiples := make([]api.Elem, len(v))
	isZero := true
	for i, y := range v {
		isZero = isZero && len(c.normal(y)) == 0
		multiples[i] = c.mul(api.Elem{{}, rational.Of(1)}, y)
	}
	images, _ := matrix.Mul(c.coordinates(v), a)
	return !isZero && areEqual(images.A, c.coordinates(multiples).A)
}

// coordinates returns the matrix whose row j consists of the j-th coordinates of the
// elements of v.
func (c *calculator) coordinates(v []api.Elem) api.Matrix {
	m, _ := matrix.New(zpoly.Degree(c.field.Modulus), len(v))
	for i, x := range v {
		for j, y := range c.normal(x) {
			m.A[j*len(v)+i] = y
		}
	}
	return m
}

// areEqual reports whether two lists of fractions are equal.
func areEqual(l, m []api.Rat) bool {
	return slices.EqualFunc(l, m, func(x, y api.Rat) bool { return rational.Cmp(x, y) == 0 })
}
