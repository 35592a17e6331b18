package factor

import (
	"slices"

	"halfplane/api"
	"halfplane/bigint"
	"halfplane/fpoly"
	"halfplane/zpoly"
)

// lift returns the monic polynomials modulo p^k that are, modulo the prime p, the
// factors of f, and whose product is f divided by its leading coefficient.
func lift(f api.ZPoly, p, k int, factors []api.FPoly) []api.ZPoly {
	if len(factors) == 0 {
		return nil
	}
	modulus := power(p, k)
	_, inverse, _ := bigint.Xgcd(f[len(f)-1], modulus)
	return liftAll(modulo(zpoly.Scale(f, inverse), modulus), p, k, factors)
}

// liftAll lifts the factors of the monic polynomial f. It lifts a factorization into
// two products first, and decomposes these.
func liftAll(f api.ZPoly, p, k int, factors []api.FPoly) []api.ZPoly {
	if len(factors) == 1 {
		return []api.ZPoly{f}
	}
	half := len(factors) / 2
	g, h := liftPair(f, p, k, product(p, factors[:half]), product(p, factors[half:]))
	return append(liftAll(g, p, k, factors[:half]), liftAll(h, p, k, factors[half:])...)
}

// product returns the product of polynomials modulo p.
func product(p int, l []api.FPoly) api.FPoly {
	f := api.FPoly{1}
	for _, g := range l {
		f, _ = fpoly.Mul(p, f, g)
	}
	return f
}

// liftPair returns the monic polynomials modulo p^k whose product is f and which are,
// modulo p, the polynomials g and h without a common factor.
func liftPair(f api.ZPoly, p, k int, g, h api.FPoly) (api.ZPoly, api.ZPoly) {
	_, u, v, _ := fpoly.Xgcd(p, g, h)
	l := pair{integral(g), integral(h), integral(u), integral(v)}
	exponents := exponentsTo(k)
	for i, n := range exponents {
		modulus := power(p, n)
		l.liftFactors(f, modulus)
		if i < len(exponents)-1 {
			l.liftMultipliers(modulus)
		}
	}
	return l.g, l.h
}

// exponentsTo returns ascending numbers from 2 or more to k (none for k = 1), each
// of which is at most twice the one before it.
func exponentsTo(k int) []int {
	var l []int
	for ; k > 1; k = (k + 1) / 2 {
		l = append(l, k)
	}
	slices.Reverse(l)
	return l
}

// pair is a factorization into monic polynomials g and h modulo some number, with
// u * g + v * h = 1.
type pair struct{ g, h, u, v api.ZPoly }

// liftFactors replaces g and h such that their product is f for the modulus, which
// divides the square of the one before (Hensel).
func (l *pair) liftFactors(f api.ZPoly, modulus api.Int) {
	wrong := modulo(zpoly.Sub(f, zpoly.Mul(l.g, l.h)), modulus)
	q, r := divideModulo(modulo(zpoly.Mul(l.u, wrong), modulus), l.h, modulus)
	change := zpoly.Add(zpoly.Mul(l.v, wrong), zpoly.Mul(q, l.g))
	l.g = modulo(zpoly.Add(l.g, change), modulus)
	l.h = modulo(zpoly.Add(l.h, r), modulus)
}

// liftMultipliers replaces u and v such that u * g + v * h = 1 for the modulus.
func (l *pair) liftMultipliers(modulus api.Int) {
	one := zpoly.Add(zpoly.Mul(l.u, l.g), zpoly.Mul(l.v, l.h))
	wrong := modulo(zpoly.Sub(one, api.ZPoly{bigint.Of(1)}), modulus)
	q, r := divideModulo(modulo(zpoly.Mul(l.u, wrong), modulus), l.h, modulus)
	change := zpoly.Add(zpoly.Mul(l.v, wrong), zpoly.Mul(q, l.g))
	l.u = modulo(zpoly.Sub(l.u, r), modulus)
	l.v = modulo(zpoly.Sub(l.v, change), modulus)
}

// integral returns f as a polynomial over the integers.
func integral(f api.FPoly) api.ZPoly {
	g := make(api.ZPoly, len(f))
	for i, c := range f {
		g[i] = bigint.Of(c)
	}
	return g
}

// power returns p^k.
func power(p, k int) api.Int {
	a, _ := bigint.Pow(bigint.Of(p), k)
	return a
}

// modulo returns f with its coefficients replaced by their remainders.
func modulo(f api.ZPoly, modulus api.Int) api.ZPoly {
	g := make(api.ZPoly, len(f))
	for i, c := range f {
		_, g[i], _ = bigint.DivMod(c, modulus)
	}
	return zpoly.Normal(g)
}

// divideModulo returns the quotient and the remainder of f by the monic polynomial g
// for the modulus. The remainders of the coefficients are taken during the division,
// because without this they would grow with every step.
func divideModulo(f, g api.ZPoly, modulus api.Int) (q, r api.ZPoly) {
	n := len(g) - 1
	r = slices.Clone(f)
	q = make(api.ZPoly, max(0, len(f)-n))
	for i := len(q) - 1; i >= 0; i-- {
		_, c, _ := bigint.DivMod(r[i+n], modulus)
		q[i] = c
		for j, b := range g[:n] {
			r[i+j] = bigint.Sub(r[i+j], bigint.Mul(c, b))
		}
	}
	return zpoly.Normal(q), modulo(r[:min(n, len(r))], modulus)
}
