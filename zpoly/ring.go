package zpoly

import (
	"slices"

	"halfplane/api"
	"halfplane/bigint"
)

// trim returns f without leading zeros; it shares the memory of f.
func trim(f api.ZPoly) api.ZPoly {
	n := len(f)
	for n > 0 && bigint.Sign(f[n-1]) == 0 {
		n--
	}
	return f[:n]
}

// degree returns the degree of f.
func degree(f api.ZPoly) int {
	return len(f) - 1
}

// lead returns the leading coefficient of f, which is not 0; it shares the
// memory of f.
func lead(f api.ZPoly) api.Int {
	return f[len(f)-1]
}

// coefficient returns the coefficient of x^i in f; it shares the memory of f.
func coefficient(f api.ZPoly, i int) api.Int {
	if i >= len(f) {
		return api.Int{}
	}
	return f[i]
}

// isOne reports whether a is 1.
func isOne(a api.Int) bool {
	n, ok := bigint.Small(a)
	return ok && n == 1
}

// each returns the polynomial whose coefficients are the images of those of f.
func each(f api.ZPoly, image func(a api.Int) api.Int) api.ZPoly {
	g := make(api.ZPoly, len(f))
	for i, a := range f {
		g[i] = image(a)
	}
	return trim(g)
}

// combine returns the polynomial whose coefficients are those of f and g, combined.
func combine(f, g api.ZPoly, op func(a, b api.Int) api.Int) api.ZPoly {
	h := make(api.ZPoly, max(len(f), len(g)))
	for i := range h {
		h[i] = op(coefficient(f, i), coefficient(g, i))
	}
	return trim(h)
}

// scale returns f * a.
func scale(f api.ZPoly, a api.Int) api.ZPoly {
	return each(f, func(c api.Int) api.Int { return bigint.Mul(c, a) })
}

// exactly returns f / a, if a divides all coefficients.
func exactly(f api.ZPoly, a api.Int) api.ZPoly {
	return each(f, func(c api.Int) api.Int {
		q, _ := bigint.Exact(c, a)
		return q
	})
}

// derivative returns the derivative of f.
func derivative(f api.ZPoly) api.ZPoly {
	if len(f) == 0 {
		return nil
	}
	g := make(api.ZPoly, len(f)-1)
	for i := range g {
		g[i] = bigint.Mul(f[i+1], bigint.Of(i+1))
	}
	return g
}

// content returns the greatest common divisor of the coefficients of f.
func content(f api.ZPoly) api.Int {
	var g api.Int
	for _, c := range slices.Backward(f) {
		g = bigint.Gcd(g, c)
		if isOne(g) {
			break
		}
	}
	return g
}

// contentAndPrimitive returns an integer and a primitive polynomial whose product is f;
// they are 0 for 0.
func contentAndPrimitive(f api.ZPoly) (api.Int, api.ZPoly) {
	if len(f) == 0 {
		return api.Int{}, nil
	}
	c := content(f)
	if bigint.Sign(lead(f)) < 0 {
		c = bigint.Neg(c)
	}
	if isOne(c) {
		return c, each(f, bigint.Normal)
	}
	return c, exactly(f, c)
}

// power returns a to the power n; unlike that of layer 1 it has no limit, since
// the polynomials have none.
func power(a api.Int, n int) api.Int {
	p := bigint.Of(1)
	for ; n > 0; n /= 2 {
		if n%2 == 1 {
			p = bigint.Mul(p, a)
		}
		// A further square would be the largest of all, and is not needed.
		if n > 1 {
			a = bigint.Mul(a, a)
		}
	}
	return p
}

// bitsOf returns the number of binary digits of the greatest coefficient of f.
func bitsOf(f api.ZPoly) int {
	n := 0
	for _, c := range f {
		n = max(n, bigint.Bits(c))
	}
	return n
}
