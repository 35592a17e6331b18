package zpoly

import (
	"halfplane/api"
	"halfplane/bigint"
)

// divisor returns the greatest common divisor of f and g.
func divisor(f, g api.ZPoly) api.ZPoly {
	a, f := contentAndPrimitive(f)
	b, g := contentAndPrimitive(g)
	c := bigint.Gcd(a, b)
	switch {
	case len(f) == 0:
		return scale(g, c)
	case len(g) == 0:
		return scale(f, c)
	}
	return scale(primitiveDivisor(f, g), c)
}

// primitiveDivisor returns the greatest common divisor of the primitive
// polynomials f and g.
//
// It unpacks the greatest common divisor of their values at a large number, makes
// it primitive and tries it. If it divides f and g, it is the greatest common
// divisor d: otherwise d were the product of it and of some h of degree at least
// 1, and h(x) would divide the content of what was unpacked, which is at most
// x/2. But h(x) is greater, since no root of f is greater than 1 plus its greatest
// coefficient, which is less than x/2. On the other hand, the divisor of the
// values is d(x) times a divisor of the resultant of f/d and g/d, so that a large
// x gives a multiple of d.
func primitiveDivisor(f, g api.ZPoly) api.ZPoly {
	if degree(f) == 0 || degree(g) == 0 || areCoprime(f, g) {
		return api.ZPoly{bigint.Of(1)}
	}
	size := max(bitsOf(f), bitsOf(g))/digit + 1
	for ; ; size *= 2 {
		// The doubled greatest coefficient, plus 2, is less than 2^32 to the power size+1.
		value := bigint.Gcd(pack(f, size+1), pack(g, size+1))
		_, d := contentAndPrimitive(unpack(value, size+1))
		if dividesBoth(d, f, g) {
			return d
		}
	}
}

// dividesBoth reports whether d divides f and g.
func dividesBoth(d, f, g api.ZPoly) bool {
	if _, exact := divide(f, d); !exact {
		return false
	}
	_, exact := divide(g, d)
	return exact
}

// squareFree returns the square-free factors of the primitive polynomial f with
// their exponents (Yun).
func squareFree(f api.ZPoly) []api.Factor {
	var l []api.Factor
	slope := derivative(f)
	common := divisor(f, slope)
	// rest is the product of the factors that are left. After the subtraction in
	// the loop, weighted is the sum of their derivatives, each times the other
	// factors and times the difference of its exponent and exp; so the factors with
	// this exponent are those that divide it.
	rest, _ := divide(f, common)
	weighted, _ := divide(slope, common)
	for exp := 1; degree(rest) > 0; exp++ {
		weighted = combine(weighted, derivative(rest), bigint.Sub)
		g := divisor(rest, weighted)
		if degree(g) > 0 {
			l = append(l, api.Factor{Poly: g, Exp: exp})
		}
		rest, _ = divide(rest, g)
		weighted, _ = divide(weighted, g)
	}
	return l
}
