package qpoly

import (
	"halfplane/api"
	"halfplane/rational"
)

// powerSums returns the first n power sums of f, which is not 0, by Newton's
// identities.
func powerSums(f api.Poly, n int) []api.Rat {
	c := monicDown(f)
	sums := make([]api.Rat, n)
	for i := range sums {
		// Above the degree of f, the identity has no term with i+1.
		s := convolution(c, sums[:i])
		if i < len(c) {
			s = rational.Add(s, rational.Mul(rational.Of(i+1), c[i]))
		}
		sums[i] = rational.Neg(s)
	}
	return sums
}

// fromPowerSums returns the monic polynomial whose degree is the number of the
// power sums.
func fromPowerSums(sums []api.Rat) api.Poly {
	n := len(sums)
	c := make([]api.Rat, n)
	f := make(api.Poly, n+1)
	f[n] = rational.Of(1)
	for i := range c {
		s := rational.Add(convolution(c[:i], sums[:i]), sums[i])
		c[i], _ = rational.Quo(s, rational.Of(-1-i))
		f[n-1-i] = c[i]
	}
	return f
}

// monicDown returns the coefficients of f divided by the leading one, from the one
// after that down.
func monicDown(f api.Poly) []api.Rat {
	d := degree(f)
	c := make([]api.Rat, d)
	for i := range c {
		c[i], _ = rational.Quo(f[d-1-i], f[d])
	}
	return c
}

// convolution returns c[0] s[n-1] + c[1] s[n-2] + .., as far as there are
// coefficients, where n is the number of the sums.
func convolution(c, s []api.Rat) api.Rat {
	sum := rational.Of(0)
	n := len(s)
	for i := range min(len(c), n) {
		sum = rational.Add(sum, rational.Mul(c[i], s[n-1-i]))
	}
	return sum
}
