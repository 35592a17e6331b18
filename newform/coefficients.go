package newform

import (
	"halfplane/api"
	"halfplane/arith"
	"halfplane/bigint"
	"halfplane/matrix"
	"halfplane/numfield"
	"halfplane/rational"
	"halfplane/series"
)

// coefficients are coefficients of a newform; those that were computed are kept.
type coefficients struct {
	forms *Forms
	orbit orbit
	known map[int]api.Elem
}

// coefficients returns the coefficients of the newform of an orbit.
func (f *Forms) coefficients(o orbit) coefficients {
	return coefficients{f, o, map[int]api.Elem{1: {rational.Of(1)}}}
}

// at returns the coefficient of q^n; no prime factor of n is to be greater than MaxHecke.
func (c coefficients) at(n int) api.Elem {
	a, ok := c.known[n]
	if ok {
		return a
	}
	p, power := leastPower(n)
	switch {
	case power < n:
		a = c.product(power, n/power)
	case p < n:
		// a_(p^(r+2)) = a_p a_(p^(r+1)) - chi(p) p^(k-1) a_(p^r)
		a, _ = numfield.Sub(c.orbit.field, c.product(p, n/p), c.multiple(p, n/p/p))
	default:
		a = c.prime(p)
	}
	c.known[n] = a
	return a
}

// product returns a_m a_n.
func (c coefficients) product(m, n int) api.Elem {
	a, _ := numfield.Mul(c.orbit.field, c.at(m), c.at(n))
	return a
}

// multiple returns chi(p) p^(k-1) a_n.
func (c coefficients) multiple(p, n int) api.Elem {
	s := c.forms.spec
	if s.Level%p == 0 {
		return nil
	}
	power, _ := bigint.Pow(bigint.Of(p), s.Weight-1)
	chi := bigint.Of(arith.Kronecker(s.Disc, p))
	a, _ := numfield.Mul(c.orbit.field, api.Elem{rational.Whole(bigint.Mul(chi, power))}, c.at(n))
	return a
}

// prime returns a_p, the value of the functional at the image of its symbol under T_p.
func (c coefficients) prime(p int) api.Elem {
	return c.orbit.value(images(c.forms.module, []int{c.orbit.symbol}, p))
}

// expansion returns the expansion of the trace of x^j times the newform.
func (f *Forms) expansion(o orbit, j, prec int) api.Series {
	form, _ := numfield.TraceForm(o.field)
	traces, _ := matrix.Row(form, j)
	c := f.coefficients(o)
	s := api.Series{Coef: make([]api.Rat, prec)}
	for n := 1; n < prec; n++ {
		for i, x := range c.at(n) {
			s.Coef[n] = rational.Add(s.Coef[n], rational.Mul(x, traces[i]))
		}
	}
	s, _ = series.Normal(s)
	return s
}

// leastPower returns the least prime factor of n, which is at least 2, and the greatest
// power of it that divides n.
func leastPower(n int) (p, power int) {
	l, _ := arith.Factor(n)
	power = 1
	for range l[0].Exp {
		power *= l[0].Prime
	}
	return l[0].Prime, power
}

// greatestPrime returns the greatest prime factor of n, or 1.
func greatestPrime(n int) int {
	l, _ := arith.Factor(n)
	if len(l) == 0 {
		return 1
	}
	return l[len(l)-1].Prime
}

// greatestPrimeBelow returns the greatest prime less than n, or 1.
func greatestPrimeBelow(n int) int {
	l, _ := arith.Primes(n - 1)
	if len(l) == 0 {
		return 1
	}
	return l[len(l)-1]
}
