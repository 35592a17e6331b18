package zpoly

import (
	"halfplane/api"
	"halfplane/bigint"
)

// resultant returns the resultant of f and g.
func resultant(f, g api.ZPoly) api.Int {
	if len(f) == 0 || len(g) == 0 {
		return api.Int{}
	}
	m, n := degree(f), degree(g)
	if m < n {
		return withSign(m*n, resultant(g, f))
	}
	a, f := contentAndPrimitive(f)
	b, g := contentAndPrimitive(g)
	factor := bigint.Mul(power(a, n), power(b, m))
	return bigint.Mul(factor, primitiveResultant(f, g))
}

// withSign returns (-1)^n * a.
func withSign(n int, a api.Int) api.Int {
	if n%2 == 0 {
		return a
	}
	return bigint.Neg(a)
}

// primitiveResultant returns the resultant of the primitive polynomials f and g,
// where the degree of g is not greater than that of f, by the sequence of the
// subresultants: the pseudo-remainders are divided by known common factors of
// their coefficients, after which these are no greater than determinants of the
// coefficients of f and g.
func primitiveResultant(f, g api.ZPoly) api.Int {
	sign := 0
	head, known := bigint.Of(1), bigint.Of(1)
	for degree(g) > 0 {
		n := degree(f) - degree(g)
		sign += degree(f) * degree(g)
		_, r := pseudoDivide(f, g)
		f, g = g, exactly(r, bigint.Mul(head, power(known, n)))
		if len(g) == 0 {
			return api.Int{}
		}
		head = lead(f)
		known = nextKnown(known, head, n)
	}
	// The last one is a constant, and f has the degree from which it results.
	return withSign(sign, nextKnown(known, lead(g), degree(f)))
}

// nextKnown returns known^(1-n) * head^n, which is an integer.
func nextKnown(known, head api.Int, n int) api.Int {
	if n == 0 {
		return known
	}
	next, _ := bigint.Exact(power(head, n), power(known, n-1))
	return next
}
