package fpoly

import (
	"iter"
	"slices"

	"halfplane/api"
	"halfplane/arith"
	"halfplane/bigint"
)

// Sums of products of residues are reduced only when they are complete: each
// product is less than 2^32, so that 2^31 of them fit into a machine word.

// downwards goes through the coefficients of f from the highest one down.
func downwards(f api.FPoly) iter.Seq[int] {
	return func(yield func(int) bool) {
		for i := len(f) - 1; i >= 0; i-- {
			if !yield(f[i]) {
				return
			}
		}
	}
}

// residue returns the residue of a modulo p.
func residue(p, a int) int {
	r := a % p
	if r < 0 {
		r += p
	}
	return r
}

// inverse returns the inverse of a residue that is not 0.
func inverse(p, a int) int {
	x, _ := arith.Inverse(a, p)
	return x
}

// normal returns f, normalized.
func normal(p int, f api.FPoly) api.FPoly {
	return reduce(p, slices.Clone(f))
}

// reduce normalizes f in place.
func reduce(p int, f api.FPoly) api.FPoly {
	for i, c := range f {
		f[i] = residue(p, c)
	}
	n := len(f)
	for n > 0 && f[n-1] == 0 {
		n--
	}
	return f[:n]
}

// addMultiple returns f + c * g for a residue c.
func addMultiple(p int, f, g api.FPoly, c int) api.FPoly {
	z := make(api.FPoly, max(len(f), len(g)))
	copy(z, f)
	for i, b := range g {
		z[i] += c * b
	}
	return reduce(p, z)
}

// difference returns f - g.
func difference(p int, f, g api.FPoly) api.FPoly {
	return addMultiple(p, f, g, p-1)
}

// scale returns c * f for a residue c.
func scale(p int, f api.FPoly, c int) api.FPoly {
	return addMultiple(p, nil, f, c)
}

// monic returns the monic multiple of f by a constant, or 0.
func monic(p int, f api.FPoly) api.FPoly {
	if len(f) == 0 {
		return nil
	}
	return scale(p, f, inverse(p, f[len(f)-1]))
}

// product returns f * g.
func product(p int, f, g api.FPoly) api.FPoly {
	if len(f) == 0 || len(g) == 0 {
		return nil
	}
	z := make(api.FPoly, len(f)+len(g)-1)
	for i, a := range f {
		for j, b := range g {
			z[i+j] += a * b
		}
	}
	return reduce(p, z)
}

// divide returns the quotient and the remainder of f by g, which is not 0.
func divide(p int, f, g api.FPoly) (quotient, rest api.FPoly) {
	rest = slices.Clone(f)
	degree := len(g) - 1
	if len(f) <= degree {
		return nil, rest
	}
	lead := inverse(p, g[degree])
	quotient = make(api.FPoly, len(f)-degree)
	for i := len(quotient) - 1; i >= 0; i-- {
		c := rest[i+degree] % p * lead % p
		quotient[i] = c
		for j, b := range g {
			rest[i+j] += (p - c) * b
		}
	}
	return quotient, reduce(p, rest[:degree])
}

// quotient returns f / g, which must be a polynomial.
func quotient(p int, f, g api.FPoly) api.FPoly {
	q, _ := divide(p, f, g)
	return q
}

// remainder returns the remainder of f by g, which is not 0.
func remainder(p int, f, g api.FPoly) api.FPoly {
	_, r := divide(p, f, g)
	return r
}

// divisor returns the monic greatest common divisor, or 0.
func divisor(p int, f, g api.FPoly) api.FPoly {
	for len(g) > 0 {
		f, g = g, remainder(p, f, g)
	}
	return monic(p, f)
}

// divisorAndFactors returns the greatest common divisor d with d = u * f + v * g.
func divisorAndFactors(p int, f, g api.FPoly) (d, u, v api.FPoly) {
	// x and y are, modulo g, the multiples of f by s and t.
	x, y := f, g
	s, t := api.FPoly{1}, api.FPoly{}
	for len(y) > 0 {
		q, r := divide(p, x, y)
		x, y = y, r
		s, t = t, difference(p, s, product(p, q, t))
	}
	if len(x) == 0 {
		return nil, nil, nil
	}
	lead := inverse(p, x[len(x)-1])
	d, u = scale(p, x, lead), scale(p, s, lead)
	if len(g) == 0 {
		return d, u, nil
	}
	u = remainder(p, u, quotient(p, g, d))
	return d, u, quotient(p, difference(p, d, product(p, u, f)), g)
}

// power returns the remainder of f to the power n >= 0 modulo m, which is not 0.
func power(p int, f api.FPoly, n api.Int, m api.FPoly) api.FPoly {
	base := remainder(p, f, m)
	z := remainder(p, api.FPoly{1}, m)
	digits := bigint.Normal(n).Mag
	for i := bigint.Bits(n) - 1; i >= 0; i-- {
		z = remainder(p, product(p, z, z), m)
		if digits[i/32]>>uint(i%32)&1 == 1 {
			z = remainder(p, product(p, z, base), m)
		}
	}
	return z
}

// derivative returns the derivative of f.
func derivative(p int, f api.FPoly) api.FPoly {
	if len(f) == 0 {
		return nil
	}
	z := make(api.FPoly, len(f)-1)
	for i := range z {
		z[i] = (i + 1) % p * f[i+1]
	}
	return reduce(p, z)
}
