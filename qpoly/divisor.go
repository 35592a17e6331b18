package qpoly

import (
	"halfplane/api"
	"halfplane/rational"
)

// divisorAndFactor returns the monic greatest common divisor d of f and g, and the
// u of least degree for which u * f - d is a multiple of g; if g is 0, u * f is d.
func divisorAndFactor(f, g api.Poly) (d, u api.Poly) {
	a, c := primitive(f)
	b, _ := primitive(g)
	if len(a) == 0 {
		return nil, nil
	}
	// Up to multiples of g, a and b are the products of f/c with u and next.
	u, next := api.Poly{rational.Of(1)}, api.Poly(nil)
	for len(b) > 0 {
		q, r := divide(multiple(a, rational.Of(1)), multiple(b, rational.Of(1)))
		rest, content := primitive(r)
		var step api.Poly
		if len(rest) > 0 {
			// The remainder is made primitive, which keeps its coefficients small.
			ratio, _ := rational.Quo(rational.Of(1), content)
			step = scale(combine(u, product(q, next), rational.Sub), ratio)
		}
		a, b, u, next = b, rest, next, step
	}
	factor, _ := rational.Quo(inverse(a), c)
	return monic(a), scale(u, factor)
}

// otherFactor returns the v with u * f + v * g = d; g is not 0.
func otherFactor(d, u, f, g api.Poly) api.Poly {
	v, _ := divide(combine(d, product(u, f), rational.Sub), g)
	return v
}

// throughPoints returns the polynomial of least degree through points with
// different X (Newton).
func throughPoints(l []api.Point) api.Poly {
	// The entry i becomes the divided difference of the first i+1 points.
	differences := make([]api.Rat, len(l))
	for i, p := range l {
		differences[i] = p.Y
	}
	for n := 1; n < len(l); n++ {
		for i := len(l) - 1; i >= n; i-- {
			rise := rational.Sub(differences[i], differences[i-1])
			differences[i], _ = rational.Quo(rise, rational.Sub(l[i].X, l[i-n].X))
		}
	}
	var f api.Poly
	for i := len(l) - 1; i >= 0; i-- {
		factor := api.Poly{rational.Neg(l[i].X), rational.Of(1)}
		f = combine(product(f, factor), trim(api.Poly{differences[i]}), rational.Add)
	}
	return f
}
