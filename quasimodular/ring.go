package quasimodular

import (
	"cmp"
	"slices"

	"halfplane/api"
	"halfplane/bigint"
	"halfplane/rational"
)

// collection contains the coefficients of the monomials with these exponents.
type collection map[[3]int]api.Rat

// add adds a term.
func (s collection) add(coef api.Rat, a, b, c int) {
	s[[3]int{a, b, c}] = rational.Add(s[[3]int{a, b, c}], coef)
}

// addAll adds c p.
func (s collection) addAll(c api.Rat, p api.QuasiPoly) {
	for _, t := range p {
		s.add(rational.Mul(c, t.Coef), t.A, t.B, t.C)
	}
}

// terms returns the sum, normalized.
func (s collection) terms() api.QuasiPoly {
	var p api.QuasiPoly
	for m, coef := range s {
		if rational.Sign(coef) != 0 {
			p = append(p, api.QuasiTerm{A: m[0], B: m[1], C: m[2], Coef: coef})
		}
	}
	slices.SortFunc(p, func(x, y api.QuasiTerm) int {
		return cmp.Or(cmp.Compare(x.A, y.A), cmp.Compare(x.B, y.B), cmp.Compare(x.C, y.C))
	})
	return p
}

// isValid reports whether p is valid.
func isValid(p api.QuasiPoly) bool {
	if len(p) > maxTerms {
		return false
	}
	for _, t := range p {
		if !isWeight(t.A) || !isWeight(t.B) || !isWeight(t.C) || !isWeight(weight(t)) {
			return false
		}
	}
	return true
}

// normal returns p, normalized.
func normal(p api.QuasiPoly) api.QuasiPoly {
	sum := make(collection)
	sum.addAll(rational.Of(1), p)
	return sum.terms()
}

// weight returns the weight of a term.
func weight(t api.QuasiTerm) int {
	return 2*t.A + 4*t.B + 6*t.C
}

// greatest returns the greatest weight of a term, 0 if there are none.
func greatest(p api.QuasiPoly) int {
	k := 0
	for _, t := range p {
		k = max(k, weight(t))
	}
	return k
}

// common returns the weight that all terms have, 0 if there are none, or ErrKind.
func common(p api.QuasiPoly) (int, api.Errno) {
	k := greatest(p)
	for _, t := range p {
		if weight(t) != k {
			return 0, api.ErrKind
		}
	}
	return k, api.OK
}

// product returns p q.
func product(p, q api.QuasiPoly) api.QuasiPoly {
	sum := make(collection)
	for _, x := range p {
		for _, y := range q {
			sum.add(rational.Mul(x.Coef, y.Coef), x.A+y.A, x.B+y.B, x.C+y.C)
		}
	}
	return sum.terms()
}

// derivative returns the derivative of p by Ramanujan's equations. Those of E2, E4 and E6
// contain the multiples of themselves by E2/12, E2/3 and E2/2.
func derivative(p api.QuasiPoly) api.QuasiPoly {
	sum := make(collection)
	for _, t := range p {
		part := func(numerator int) api.Rat { return rational.Mul(fraction(numerator, 12), t.Coef) }
		sum.add(part(t.A+4*t.B+6*t.C), t.A+1, t.B, t.C)
		sum.add(part(-t.A), t.A-1, t.B+1, t.C)
		sum.add(part(-4*t.B), t.A, t.B-1, t.C+1)
		sum.add(part(-6*t.C), t.A, t.B+2, t.C-1)
	}
	return sum.terms()
}

// serre returns Serre's derivative of p, whose terms have the weight k.
func serre(p api.QuasiPoly, k int) api.QuasiPoly {
	sum := make(collection)
	sum.addAll(rational.Of(1), derivative(p))
	for _, t := range p {
		sum.add(rational.Mul(fraction(-k, 12), t.Coef), t.A+1, t.B, t.C)
	}
	return sum.terms()
}

// bracket returns the bracket of order n of p and q, whose terms have the weights k and l.
func bracket(p, q api.QuasiPoly, k, l, n int) api.QuasiPoly {
	ps, qs := []api.QuasiPoly{p}, []api.QuasiPoly{q}
	for i := range n {
		ps = append(ps, derivative(ps[i]))
		qs = append(qs, derivative(qs[i]))
	}
	sum := make(collection)
	for r := range n + 1 {
		sum.addAll(bracketFactor(k, l, n, r), product(ps[r], qs[n-r]))
	}
	return sum.terms()
}

// bracketFactor returns the coefficient of D^r f D^(n-r) g in the bracket of order n of f
// and g, which have the weights k and l.
func bracketFactor(k, l, n, r int) api.Rat {
	c := binomial(n+k-1, n-r) * binomial(n+l-1, r)
	if r%2 == 1 {
		c = -c
	}
	return rational.Of(c)
}

// binomial returns m (m - 1) .. (m - s + 1)/s!.
func binomial(m, s int) int {
	c := 1
	for i := range s {
		c = c * (m - i) / (i + 1)
	}
	return c
}

// fraction returns n/d.
func fraction(n, d int) api.Rat {
	x, _ := rational.Make(bigint.Of(n), bigint.Of(d))
	return x
}
