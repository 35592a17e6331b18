package zpoly

import (
	"math/bits"
	"slices"

	"halfplane/api"
	"halfplane/bigint"
)

// divide returns the polynomial q with f = q * g, and whether there is one; g is not 0.
func divide(f, g api.ZPoly) (api.ZPoly, bool) {
	n := len(f) - len(g)
	if n < 0 {
		return nil, len(f) == 0
	}
	// No divisor of f has a greater coefficient (Landau and Mignotte). Without
	// this limit the coefficients of a quotient that does not exist could become
	// very great before that is found.
	limit := bitsOf(f) + len(f) + bits.Len(uint(len(f)))
	rest := slices.Clone(f)
	q := make(api.ZPoly, n+1)
	for i := n; i >= 0; i-- {
		c, e := bigint.Exact(rest[i+degree(g)], lead(g))
		if e != api.OK || bigint.Bits(c) > limit {
			return nil, false
		}
		q[i] = c
		addMultiple(rest[i:], g, bigint.Neg(c))
	}
	return q, len(trim(rest)) == 0
}

// pseudoDivide returns q and r with lead(g)^k * f = q * g + r, where k is the
// number of steps of the division (0 if f has a lower degree than g).
func pseudoDivide(f, g api.ZPoly) (q, r api.ZPoly) {
	steps := max(0, len(f)-len(g)+1)
	if steps == 0 {
		return nil, each(f, bigint.Normal)
	}
	q = make(api.ZPoly, steps)
	r = slices.Clone(f)
	for i := steps - 1; i >= 0; i-- {
		q[i] = r[i+degree(g)]
		// Every step multiplies what is left by lead(g), and also the part of the
		// quotient that is known; that part is made up for below.
		r = scaleInPlace(r[:i+degree(g)], lead(g))
		addMultiple(r[i:], g[:degree(g)], bigint.Neg(q[i]))
	}
	factor := bigint.Of(1)
	for i, c := range q {
		q[i] = bigint.Mul(c, factor)
		factor = bigint.Mul(factor, lead(g))
	}
	// Behind its end, r still has coefficients of f.
	return q, slices.Clip(trim(r))
}

// scaleInPlace multiplies the coefficients of f by a, and returns f.
func scaleInPlace(f api.ZPoly, a api.Int) api.ZPoly {
	for i, c := range f {
		f[i] = bigint.Mul(c, a)
	}
	return f
}
