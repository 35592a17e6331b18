package newform

import (
	"halfplane/api"
	"halfplane/arith"
	"halfplane/charpoly"
	"halfplane/dimension"
	"halfplane/eigen"
	"halfplane/factor"
	"halfplane/matrix"
	"halfplane/numfield"
	"halfplane/qpoly"
	"halfplane/rational"
	"halfplane/zpoly"
)

// orbit is an orbit of newforms.
type orbit struct {
	field api.Field
	space api.Space
	// functional has the coordinates of the values, at the basis vectors of the module, of a
	// linear functional to the field that multiplies by a_n if T_n goes before it. It is 1
	// at the class of the Manin symbol with the number symbol. Its columns are divided by
	// factors, so that its elements are integers.
	functional api.Matrix
	factors    []api.Rat
	symbol     int
}

// primesOf returns the primes of a Spec.
func primesOf(s api.Spec) []int {
	bound, _ := dimension.Sturm(s)
	l, _ := arith.Primes(bound)
	return l
}

// separate returns the base of the separator, the matrix of t on the quotient, and the
// irreducible factors of its characteristic polynomial.
func (q quotient) separate(primes []int) (base int, t api.Matrix, factors []api.Factor) {
	l := q.operators(primes)
	for base = 1; ; base++ {
		t = q.combination(l, base)
		g, _ := charpoly.CharPoly(t)
		f, _ := qpoly.Clear(g)
		if zpoly.Degree(zpoly.Gcd(f, zpoly.Derivative(f))) == 0 {
			_, factors, _ = factor.Factor(f)
			return base, t, factors
		}
	}
}

// orbit returns the orbit of an irreducible factor f of the characteristic polynomial of t,
// which is given by its matrix on the quotient by the complement of V.
func (q quotient) orbit(v api.Space, t api.Matrix, f api.ZPoly) orbit {
	value, _ := charpoly.At(qpoly.Of(f), t)
	classes, _ := matrix.Mul(v.Basis, q.classes)
	image, _ := matrix.Mul(classes, value)
	o := orbit{space: part(v, image)}
	transpose, _ := matrix.Transpose(t)
	k, values, _ := eigen.Vector(transpose, f)
	o.field = k
	first := 0
	for len(values[first]) == 0 {
		first++
	}
	o.symbol = q.symbols[first]
	functional, _ := matrix.Mul(q.classes, coordinates(values, zpoly.Degree(f)))
	o.functional, o.factors = integralColumns(functional)
	return o
}

// value returns the value of the functional at a class, which is the one row of a matrix.
func (o orbit) value(class api.Matrix) api.Elem {
	row, _ := matrix.Mul(class, o.functional)
	for j, f := range o.factors {
		row.A[j] = rational.Mul(row.A[j], f)
	}
	a, _ := numfield.Normal(o.field, api.Elem(row.A))
	return a
}

// integralColumns returns a matrix of integers, and numbers by which its columns are to be
// multiplied to make those of m.
func integralColumns(m api.Matrix) (api.Matrix, []api.Rat) {
	columns, _ := matrix.Transpose(m)
	factors := make([]api.Rat, m.Cols)
	for j := range factors {
		column := columns.A[j*m.Rows : (j+1)*m.Rows]
		var primitive api.ZPoly
		primitive, factors[j] = qpoly.Clear(column)
		// Clear omits zeros at the end.
		copy(column, qpoly.Of(primitive))
	}
	integral, _ := matrix.Transpose(columns)
	return integral, factors
}

// coordinates returns the matrix whose rows have the coordinates of elements of a field.
func coordinates(l []api.Elem, degree int) api.Matrix {
	m, _ := matrix.New(len(l), degree)
	for i, x := range l {
		copy(m.A[i*degree:], x)
	}
	return m
}
