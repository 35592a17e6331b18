package series

import (
	"halfplane/api"
	"halfplane/bigint"
	"halfplane/rational"
)

// chain is a list of fractions that grows: numerator i belongs to the product of the
// steps 0 to i, a common denominator of the fractions 0 to i, and den is that of all.
// So the first fractions are not burdened with the denominators of the last ones.
type chain struct {
	num, steps []api.Int
	den        api.Int
}

// push appends a normalized fraction.
func (c *chain) push(x api.Rat) {
	if len(c.num) == 0 {
		c.den = bigint.Of(1)
	}
	step, _ := bigint.Exact(x.Den, bigint.Gcd(c.den, x.Den))
	c.den = bigint.Mul(c.den, step)
	factor, _ := bigint.Exact(c.den, x.Den)
	c.num = append(c.num, bigint.Mul(x.Num, factor))
	c.steps = append(c.steps, step)
}

// sum returns the sum of all fractions, each multiplied by its weight.
func (c *chain) sum(weight func(i int) api.Int) api.Rat {
	one := bigint.Of(1)
	var total api.Int
	for i := range len(c.num) {
		if bigint.Cmp(c.steps[i], one) != 0 {
			total = bigint.Mul(total, c.steps[i])
		}
		if bigint.Sign(c.num[i]) == 0 {
			continue
		}
		if w := weight(i); bigint.Sign(w) != 0 {
			total = bigint.Add(total, bigint.Mul(w, c.num[i]))
		}
	}
	x, _ := rational.Make(total, c.den)
	return x
}

// power returns the first coefficients of f^n, as many as f has, where f begins with a
// coefficient that is not 0. The coefficients g of f^n follow from f Theta(f^n) =
// n Theta(f) f^n: k f(0) g(k) is the sum of (n (k - j) - j) f(k - j) g(j) over all j < k.
func power(f []api.Rat, n int) []api.Rat {
	if len(f) == 0 {
		return nil
	}
	num, _ := integers(f)
	g := make([]api.Rat, len(f))
	var c chain
	for k := range len(g) {
		if k == 0 {
			g[k] = raised(f[0], n)
		} else {
			sum := c.sum(func(j int) api.Int {
				return bigint.Mul(bigint.Of(n*(k-j)-j), num[k-j])
			})
			g[k] = divided(sum, bigint.Mul(bigint.Of(k), num[0]))
		}
		c.push(g[k])
	}
	return g
}

// raised returns x^n for an x that is not 0, of any size.
func raised(x api.Rat, n int) api.Rat {
	y := rational.Of(1)
	for range max(n, -n) {
		y = rational.Mul(y, x)
	}
	if n < 0 {
		y, _ = rational.Quo(rational.Of(1), y)
	}
	return y
}

// divided returns x/d for a d that is not 0.
func divided(x api.Rat, d api.Int) api.Rat {
	quotient, _ := rational.Make(x.Num, bigint.Mul(x.Den, d))
	return quotient
}

// exponents returns the exponents c(n), for n from 1 on, for which the series f, which
// begins with 1, is the product of all (1 - q^n)^c(n). With s(n) as the sum of d c(d) over
// the divisors d of n, -n f(n) is the sum of f(n - k) s(k) over k from 1 to n.
func exponents(f []api.Rat) []api.Rat {
	num, den := integers(f)
	s := make([]api.Rat, len(f))
	var c chain
	// The first weight is n, so that the place 0 stands for -n f(n).
	c.push(rational.Of(1))
	for n := 1; n < len(f); n++ {
		sum := c.sum(func(k int) api.Int {
			if k == 0 {
				return bigint.Mul(bigint.Of(n), num[n])
			}
			return num[n-k]
		})
		s[n] = divided(sum, bigint.Neg(den))
		c.push(s[n])
	}
	for n := 1; n < len(f); n++ {
		for m := 2 * n; m < len(f); m += n {
			s[m] = rational.Sub(s[m], s[n])
		}
		// Now s[n] is n c(n), since the terms of the lesser divisors are subtracted.
	}
	l := make([]api.Rat, len(f)-1)
	for i := range len(l) {
		l[i] = divided(s[i+1], bigint.Of(i+1))
	}
	return l
}

// productOfPowers returns the product of all (1 - q^n)^c[n-1] with one coefficient more
// than there are exponents. With s(n) as above, -n f(n) is the sum of s(n - k) f(k) over
// all k < n.
func productOfPowers(c []api.Rat) []api.Rat {
	s := zeros(len(c) + 1)
	for d := 1; d < len(s); d++ {
		term := rational.Mul(rational.Of(d), c[d-1])
		for n := d; n < len(s); n += d {
			s[n] = rational.Add(s[n], term)
		}
	}
	num, den := integers(s)
	f := make([]api.Rat, len(s))
	var known chain
	for n := range len(f) {
		f[n] = rational.Of(1)
		if n > 0 {
			sum := known.sum(func(k int) api.Int { return num[n-k] })
			f[n] = divided(sum, bigint.Mul(bigint.Of(-n), den))
		}
		known.push(f[n])
	}
	return f
}
