package qpoly

import (
	"halfplane/api"
	"halfplane/bigint"
	"halfplane/rational"
	"halfplane/zpoly"
)

// trim returns f without leading zeros; it shares the memory of f.
func trim(f api.Poly) api.Poly {
	n := len(f)
	for n > 0 && rational.Sign(f[n-1]) == 0 {
		n--
	}
	return f[:n]
}

// degree returns the degree of f.
func degree(f api.Poly) int {
	return len(f) - 1
}

// coefficient returns the coefficient of x^i in f; it shares the memory of f.
func coefficient(f api.Poly, i int) api.Rat {
	if i >= len(f) {
		return api.Rat{}
	}
	return f[i]
}

// each returns the polynomial whose coefficients are the images of those of f.
func each(f api.Poly, image func(a api.Rat) api.Rat) api.Poly {
	g := make(api.Poly, len(f))
	for i, a := range f {
		g[i] = image(a)
	}
	return trim(g)
}

// combine returns the polynomial whose coefficients are those of f and g, combined.
func combine(f, g api.Poly, op func(a, b api.Rat) api.Rat) api.Poly {
	h := make(api.Poly, max(len(f), len(g)))
	for i := range h {
		h[i] = op(coefficient(f, i), coefficient(g, i))
	}
	return trim(h)
}

// scale returns f * a.
func scale(f api.Poly, a api.Rat) api.Poly {
	return each(f, func(c api.Rat) api.Rat { return rational.Mul(c, a) })
}

// multiple returns f * a for a polynomial over the integers.
func multiple(f api.ZPoly, a api.Rat) api.Poly {
	g := make(api.Poly, len(f))
	for i, c := range f {
		g[i] = rational.Mul(api.Rat{Num: c, Den: bigint.Of(1)}, a)
	}
	return trim(g)
}

// primitive returns a primitive polynomial and a number whose product is f; they
// are 0 for 0. What takes many steps is done with such polynomials, because
// arithmetic with fractions reduces each of them.
func primitive(f api.Poly) (api.ZPoly, api.Rat) {
	f = each(f, rational.Normal)
	den := bigint.Of(1)
	for _, c := range f {
		rest, _ := bigint.Exact(c.Den, bigint.Gcd(den, c.Den))
		den = bigint.Mul(den, rest)
	}
	g := make(api.ZPoly, len(f))
	for i, c := range f {
		factor, _ := bigint.Exact(den, c.Den)
		g[i] = bigint.Mul(c.Num, factor)
	}
	num := zpoly.Content(g)
	if len(g) > 0 && bigint.Sign(g[len(g)-1]) < 0 {
		num = bigint.Neg(num)
	}
	c, _ := rational.Make(num, den)
	return zpoly.Primitive(g), c
}

// product returns f * g.
func product(f, g api.Poly) api.Poly {
	a, c := primitive(f)
	b, d := primitive(g)
	return multiple(zpoly.Mul(a, b), rational.Mul(c, d))
}

// divide returns q and r with f = q * g + r; g is not 0.
func divide(f, g api.Poly) (q, r api.Poly) {
	a, c := primitive(f)
	b, d := primitive(g)
	quotient, rest, _ := zpoly.PseudoDiv(a, b)
	// The factor by which a was multiplied for the division of integers.
	factor := bigint.Of(1)
	for range len(a) - len(b) + 1 {
		factor = bigint.Mul(factor, b[len(b)-1])
	}
	c, _ = rational.Quo(c, rational.Whole(factor))
	ratio, _ := rational.Quo(c, d)
	return multiple(quotient, ratio), multiple(rest, c)
}
