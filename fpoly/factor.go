package fpoly

import (
	"cmp"
	"slices"

	"halfplane/api"
	"halfplane/bigint"
)

// Roots returns the roots of f in ascending order.
func Roots(p int, f api.FPoly) ([]int, api.Errno) {
	g, e := factorable(p, f)
	if e != api.OK {
		return nil, e
	}
	x := api.FPoly{0, 1}
	linear := divisor(p, g, difference(p, power(p, x, bigint.Of(p), g), x))
	var roots []int
	for _, h := range separate(p, linear, 1, x) {
		roots = append(roots, residue(p, -h[0]))
	}
	slices.Sort(roots)
	return roots, api.OK
}

// Irreducible reports whether f is irreducible.
func Irreducible(p int, f api.FPoly) (bool, api.Errno) {
	g, e := factorable(p, f)
	if e != api.OK {
		return false, e
	}
	return irreducible(p, g), api.OK
}

// Factor returns the leading coefficient and the monic irreducible factors of f.
func Factor(p int, f api.FPoly) (lead int, l []api.FFactor, e api.Errno) {
	g, e := factorable(p, f)
	if e != api.OK {
		return 0, nil, e
	}
	for _, h := range factors(p, monic(p, g)) {
		l = append(l, api.FFactor{Poly: h, Exp: multiplicity(p, g, h)})
	}
	slices.SortFunc(l, inOrder)
	return g[len(g)-1], l, api.OK
}

// inOrder compares two factors by the order of monic polynomials.
func inOrder(a, b api.FFactor) int {
	if c := cmp.Compare(len(a.Poly), len(b.Poly)); c != 0 {
		return c
	}
	for i := len(a.Poly) - 1; i >= 0; i-- {
		if c := cmp.Compare(a.Poly[i], b.Poly[i]); c != 0 {
			return c
		}
	}
	return 0
}

// factorable returns f, normalized, or the first error of a polynomial that is to be factored.
func factorable(p int, f api.FPoly) (api.FPoly, api.Errno) {
	g, e := Normal(p, f)
	switch {
	case e != api.OK:
		return nil, e
	case len(g) == 0:
		return nil, api.ErrZero
	case len(g)-1 > api.MaxDegree:
		return nil, api.ErrLarge
	}
	return g, api.OK
}

// irreducible reports whether f, which is not 0, is irreducible: it has no
// common divisor with x^(p^d) - x, the product of the monic irreducible
// polynomials whose degrees divide d, for any d up to half its degree.
func irreducible(p int, f api.FPoly) bool {
	x := api.FPoly{0, 1}
	h := x
	for d := 1; 2*d < len(f); d++ {
		h = power(p, h, bigint.Of(p), f)
		if len(divisor(p, f, difference(p, h, x))) > 1 {
			return false
		}
	}
	return len(f) > 1
}

// multiplicity returns the exponent of a factor h of f.
func multiplicity(p int, f, h api.FPoly) int {
	exp := 0
	for {
		q, r := divide(p, f, h)
		if len(r) > 0 {
			return exp
		}
		f = q
		exp++
	}
}

// factors returns the monic irreducible factors of a monic polynomial, each once.
func factors(p int, f api.FPoly) []api.FPoly {
	if len(f) == 1 {
		return nil
	}
	slope := derivative(p, f)
	if len(slope) == 0 {
		return factors(p, rootOfPower(p, f))
	}
	// free is the product of the factors whose exponents p does not divide.
	free := quotient(p, f, divisor(p, f, slope))
	rest := f
	for common := free; len(common) > 1; common = divisor(p, rest, free) {
		rest = quotient(p, rest, common)
	}
	return append(byDegrees(p, free), factors(p, rest)...)
}

// rootOfPower returns the polynomial whose power with the exponent p is f; it
// takes every p-th coefficient, because a^p = a for residues.
func rootOfPower(p int, f api.FPoly) api.FPoly {
	root := make(api.FPoly, (len(f)-1)/p+1)
	for i := range root {
		root[i] = f[i*p]
	}
	return root
}

// byDegrees returns the irreducible factors of a monic square-free polynomial
// of degree at least 1. It splits off the products of those of degrees 1, 2 and so on.
func byDegrees(p int, f api.FPoly) []api.FPoly {
	var l []api.FPoly
	x := api.FPoly{0, 1}
	h := x
	for d := 1; 2*d < len(f); d++ {
		h = power(p, h, bigint.Of(p), f)
		part := divisor(p, f, difference(p, h, x))
		if len(part) > 1 {
			l = append(l, separate(p, part, d, x)...)
			f = quotient(p, f, part)
		}
	}
	if len(f) > 1 {
		l = append(l, f)
	}
	return l
}

// separate returns the irreducible factors of a monic product of different
// ones of degree d. It tries polynomials in a fixed order, from trial on; a
// part needs no trial again that has separated it from another one.
func separate(p int, f api.FPoly, d int, trial api.FPoly) []api.FPoly {
	switch len(f) - 1 {
	case 0:
		return nil
	case d:
		return []api.FPoly{f}
	}
	for {
		part := split(p, f, d, trial)
		trial = nextTrial(p, trial)
		if len(part) > 1 && len(part) < len(f) {
			other := quotient(p, f, part)
			return append(separate(p, part, d, trial), separate(p, other, d, trial)...)
		}
	}
}

// split returns the product of those factors, all of degree d, of f modulo
// which trial is a square other than 0, or if p is 2, has the trace 0. (A
// residue of trial is an element of the field with q = p^d elements; it is
// such a square if its power with the exponent (q-1)/2 is 1.)
func split(p int, f api.FPoly, d int, trial api.FPoly) api.FPoly {
	if p == 2 {
		power := remainder(p, trial, f)
		trace := power
		for range d - 1 {
			power = remainder(p, product(p, power, power), f)
			trace = addMultiple(p, trace, power, 1)
		}
		return divisor(p, f, trace)
	}
	q, _ := bigint.Pow(bigint.Of(p), d)
	half, _, _ := bigint.DivMod(q, bigint.Of(2))
	return divisor(p, f, difference(p, power(p, trial, half, f), api.FPoly{1}))
}

// nextTrial returns the polynomial to be tried after f. The monic polynomials
// up to degree 2d tell any two factors of degree d from each other. If p is 2,
// the powers of x do, because the trace is linear.
func nextTrial(p int, f api.FPoly) api.FPoly {
	if p == 2 {
		return product(p, f, api.FPoly{0, 1})
	}
	return next(p, f)
}

// next returns the monic polynomial that follows f in the order of monic polynomials.
func next(p int, f api.FPoly) api.FPoly {
	z := slices.Clone(f)
	last := len(z) - 1
	for i := range last {
		z[i]++
		if z[i] < p {
			return z
		}
		z[i] = 0
	}
	z[last] = 0
	return append(z, 1)
}
