package numfield

import (
	"math/bits"
	"slices"

	"halfplane/api"
	"halfplane/bigint"
	"halfplane/charpoly"
	"halfplane/matrix"
	"halfplane/qpoly"
	"halfplane/rational"
	"halfplane/zpoly"
)

// ring is the ring of the polynomials modulo a monic polynomial.
type ring struct{ modulus api.ZPoly }

// ringOf returns the ring of a field, or ErrForm if this is not well-formed.
func ringOf(k api.Field) (*ring, api.Errno) {
	r := &ring{zpoly.Normal(k.Modulus)}
	n := r.degree()
	if n < 1 || n > api.MaxField || bigint.Cmp(r.modulus[n], bigint.Of(1)) != 0 {
		return nil, api.ErrForm
	}
	return r, api.OK
}

// degree returns the degree of the modulus.
func (r *ring) degree() int {
	return len(r.modulus) - 1
}

// one returns the element 1.
func (r *ring) one() api.Elem {
	return api.Elem{rational.Of(1)}
}

// normal returns any element, normalized.
func (r *ring) normal(a api.Elem) api.Elem {
	f := qpoly.Normal(api.Poly(a))
	if len(f) <= r.degree() {
		return api.Elem(f)
	}
	g, c := qpoly.Clear(f)
	return r.multiple(g, c)
}

// multiple returns the element c * f. The coefficients of f, which it changes, are
// integers, because arithmetic with fractions reduces each of them.
func (r *ring) multiple(f api.ZPoly, c api.Rat) api.Elem {
	f = r.remainder(f)
	a := make(api.Poly, len(f))
	for i, x := range f {
		a[i] = rational.Mul(rational.Whole(x), c)
	}
	return api.Elem(a)
}

// remainder returns the remainder of f, which it changes, divided by the modulus.
func (r *ring) remainder(f api.ZPoly) api.ZPoly {
	n := r.degree()
	for i := len(f) - 1; i >= n; i-- {
		for j, c := range r.modulus[:n] {
			x := &f[i-n+j]
			*x = bigint.Sub(*x, bigint.Mul(f[i], c))
		}
	}
	return zpoly.Normal(f[:min(n, len(f))])
}

// product returns a * b.
func (r *ring) product(a, b api.Elem) api.Elem {
	f, c := qpoly.Clear(api.Poly(a))
	g, d := qpoly.Clear(api.Poly(b))
	return r.multiple(zpoly.Mul(f, g), rational.Mul(c, d))
}

// inverse returns the element whose product with a is 1. If g is the characteristic
// polynomial of a without its constant coefficient c, divided by x, a * g(a) is -c
// (Cayley and Hamilton).
func (r *ring) inverse(a api.Elem) (api.Elem, api.Errno) {
	if len(a) == 0 {
		return nil, api.ErrZero
	}
	g, _ := charpoly.CharPoly(r.multiplication(a))
	factor, e := rational.Quo(rational.Of(-1), g[0])
	if e != api.OK {
		return nil, api.ErrSingular
	}
	return api.Elem(qpoly.Scale(api.Poly(r.value(g[1:], a)), factor)), api.OK
}

// power returns a to the power n, which is not negative.
func (r *ring) power(a api.Elem, n int) api.Elem {
	x := r.one()
	for i := bits.Len(uint(n)) - 1; i >= 0; i-- {
		x = r.product(x, x)
		if n>>uint(i)&1 == 1 {
			x = r.product(x, a)
		}
	}
	return x
}

// value returns g(a).
func (r *ring) value(g api.Poly, a api.Elem) api.Elem {
	var x api.Elem
	for _, c := range slices.Backward(g) {
		x = api.Elem(qpoly.Add(api.Poly(r.product(x, a)), api.Poly{c}))
	}
	return x
}

// multiplication returns the matrix whose row i consists of the coordinates of x^i * a.
func (r *ring) multiplication(a api.Elem) api.Matrix {
	n := r.degree()
	m, _ := matrix.New(n, n)
	f, c := qpoly.Clear(api.Poly(a))
	for i := range n {
		copy(m.A[i*n:], r.multiple(f, c))
		f = r.remainder(append(api.ZPoly{{}}, f...))
	}
	return m
}

// traceForm returns the matrix of the traces of x^(i+j), which are the sums of the powers
// of the roots of the modulus.
func (r *ring) traceForm() api.Matrix {
	n := r.degree()
	sums, _ := qpoly.PowerSums(qpoly.Of(r.modulus), 2*n-2)
	sums = append([]api.Rat{rational.Of(n)}, sums...)
	rows := make([][]api.Rat, n)
	for i := range rows {
		rows[i] = sums[i : i+n]
	}
	m, _ := matrix.FromRows(n, rows)
	return m
}
