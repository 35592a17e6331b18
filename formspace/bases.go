package formspace

import (
	"slices"

	"halfplane/api"
	"halfplane/arith"
	"halfplane/dimension"
	"halfplane/lattice"
	"halfplane/matrix"
	"halfplane/newform"
	"halfplane/numfield"
	"halfplane/rational"
	"halfplane/series"
	"halfplane/subspace"
)

// isBasis reports whether series are the basis of a space of forms.
func isBasis(l []api.Series, prec, bound int) bool {
	for i, a := range l {
		switch {
		case !isNormal(a) || len(a.Coef) == 0 || a.From+len(a.Coef) != prec:
			return false
		case a.From < 0 || a.From > bound || i > 0 && a.From <= l[i-1].From:
			return false
		case rational.Cmp(a.Coef[0], rational.Of(1)) != 0:
			return false
		}
	}
	// The coefficients of later elements are 0 below their orders.
	for i, a := range l {
		for _, b := range l[i+1:] {
			if rational.Sign(a.Coef[b.From-a.From]) != 0 {
				return false
			}
		}
	}
	return true
}

// isNormal reports whether a series is valid and normalized, as it is written.
func isNormal(a api.Series) bool {
	n, code := series.Normal(a)
	return code == api.OK && n.From == a.From && slices.EqualFunc(n.Coef, a.Coef, isSame)
}

// isSame reports whether two fractions have the same fields.
func isSame(a, b api.Rat) bool {
	return isSameInt(a.Num, b.Num) && isSameInt(a.Den, b.Den)
}

func isSameInt(a, b api.Int) bool {
	return a.Neg == b.Neg && slices.Equal(a.Mag, b.Mag)
}

// span returns the space that valid series without poles span to a precision that all of
// them have, or ErrMember if some combination begins behind the bound.
func span(s api.Spec, prec int, l []api.Series) (api.FormSpace, api.Errno) {
	m, pivots, _ := matrix.Echelon(rows(l, prec))
	bound, _ := dimension.Sturm(s)
	if len(pivots) > 0 && pivots[len(pivots)-1] > bound {
		return api.FormSpace{}, api.ErrMember
	}
	return api.FormSpace{Spec: s, Prec: prec, Basis: forms(m)}, api.OK
}

// rows returns the matrix whose rows are the coefficients of series below a precision.
func rows(l []api.Series, prec int) api.Matrix {
	m := api.Matrix{Rows: len(l), Cols: prec}
	for _, a := range l {
		for n := range prec {
			c, _ := series.At(a, n)
			m.A = append(m.A, c)
		}
	}
	return m
}

// forms returns the series whose coefficients are the rows of a matrix.
func forms(m api.Matrix) []api.Series {
	l := make([]api.Series, m.Rows)
	for i := range l {
		row, _ := matrix.Row(m, i)
		l[i], _ = series.Normal(api.Series{Coef: row})
	}
	return l
}

// combine returns the sum of x_i Basis[i].
func combine(f api.FormSpace, x []api.Rat) api.Series {
	sum, _ := series.Monomial(rational.Of(0), 0, f.Prec)
	for i, b := range f.Basis {
		if rational.Sign(x[i]) != 0 {
			a, _ := series.Scale(x[i], b)
			sum, _ = series.Add(sum, a)
		}
	}
	return sum
}

// cuspForms returns the series that span the cusp forms of a space.
func cuspForms(s api.Spec, prec int) ([]api.Series, api.Errno) {
	var l []api.Series
	levels, _ := arith.Divisors(s.Level)
	for _, level := range levels {
		if level%s.Disc != 0 {
			continue
		}
		f, code := newform.New(api.Spec{Level: level, Weight: s.Weight, Disc: s.Disc})
		if code != api.OK {
			return nil, code
		}
		for i := range f.Count() {
			own, code := conjugates(f, i, prec)
			if code != api.OK {
				return nil, code
			}
			l = append(l, atMultiples(own, s.Level/level, prec)...)
		}
	}
	return l, api.OK
}

// conjugates returns series that span the same space as the series Expansion(i, j, prec) of
// an orbit for all j: those of the coordinates of the coefficients. As the trace form is not
// degenerate, each of them is a combination of the others' traces, and the reverse.
func conjugates(f *newform.Forms, i, prec int) ([]api.Series, api.Errno) {
	a, code := coefficients(f, i, prec)
	if code != api.OK {
		return nil, code
	}
	field, _ := f.Field(i)
	l := make([]api.Series, len(field.Modulus)-1)
	for j := range l {
		l[j].Coef = make([]api.Rat, prec)
		for n, x := range a {
			if j < len(x) {
				l[j].Coef[n] = x[j]
			}
		}
	}
	return l, api.OK
}

// coefficients returns the coefficients below a precision of the newform of an orbit. It
// begins with the greatest primes: if there is an error, these have one.
func coefficients(f *newform.Forms, i, prec int) ([]api.Elem, api.Errno) {
	field, _ := f.Field(i)
	a := make([]api.Elem, prec)
	for n := prec - 1; n >= 1; n-- {
		if power(n) == n {
			var code api.Errno
			if a[n], code = f.Coefficient(i, n); code != api.OK {
				return nil, code
			}
		}
	}
	for n := 1; n < prec; n++ {
		if q := power(n); q < n {
			a[n], _ = numfield.Mul(field, a[q], a[n/q])
		}
	}
	return a, api.OK
}

// power returns the power of the least prime factor of n that exactly divides n.
func power(n int) int {
	l, _ := arith.Factor(n)
	q := 1
	if len(l) > 0 {
		for range l[0].Exp {
			q *= l[0].Prime
		}
	}
	return q
}

// atMultiples returns the series of a list in which q is replaced by q^t, for all t that
// divide n.
func atMultiples(l []api.Series, n, prec int) []api.Series {
	var all []api.Series
	multiples, _ := arith.Divisors(n)
	for _, a := range l {
		for _, t := range multiples {
			b, _ := series.Expand(a, t)
			b, _ = series.Cut(b, prec)
			all = append(all, b)
		}
	}
	return all
}

// sum returns the sum of two valid spaces of one Spec.
func sum(a, b api.FormSpace) (api.FormSpace, api.Errno) {
	n := len(a.Basis)
	both := append(a.Basis[:n:n], b.Basis...)
	return span(a.Spec, min(a.Prec, b.Prec), both)
}

// intersection returns the intersection of two valid spaces of one Spec in whose sum no form
// begins behind the bound, so that the coefficients up to the bound tell which forms are in
// both spaces.
func intersection(a, b api.FormSpace) api.FormSpace {
	bound, _ := dimension.Sturm(a.Spec)
	first, _ := subspace.Span(rows(a.Basis, bound+1))
	second, _ := subspace.Span(rows(b.Basis, bound+1))
	both, _ := subspace.Intersect(first, second)
	prec := min(a.Prec, b.Prec)
	f := api.FormSpace{Spec: a.Spec, Prec: prec}
	for _, c := range forms(both.Basis) {
		whole := combine(a, coordinates(a, c))
		whole, _ = series.Cut(whole, prec)
		f.Basis = append(f.Basis, whole)
	}
	return f
}

// coordinates returns the coordinates of a form of f that is known up to the bound.
func coordinates(f api.FormSpace, a api.Series) []api.Rat {
	x := make([]api.Rat, len(f.Basis))
	for i, b := range f.Basis {
		x[i], _ = series.At(a, b.From)
	}
	return x
}

// integral returns a basis of the forms of a valid space whose coefficients up to the bound
// are integers.
func integral(f api.FormSpace) []api.Series {
	bound, _ := dimension.Sturm(f.Spec)
	m := api.ZMatrix{Rows: len(f.Basis), Cols: bound + 1}
	for _, a := range f.Basis {
		start, _ := series.Cut(a, bound+1)
		d, _ := series.Denominator(start)
		for n := range bound + 1 {
			c, _ := series.At(start, n)
			c = rational.Mul(rational.Whole(d), c)
			m.A = append(m.A, c.Num)
		}
	}
	m, _ = lattice.Saturate(m)
	l := make([]api.Series, m.Rows)
	for i := range l {
		a := api.Series{}
		for _, c := range m.A[i*m.Cols : (i+1)*m.Cols] {
			a.Coef = append(a.Coef, rational.Whole(c))
		}
		l[i] = combine(f, coordinates(f, a))
	}
	return l
}
