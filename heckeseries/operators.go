package heckeseries

import (
	"halfplane/api"
	"halfplane/arith"
	"halfplane/bigint"
	"halfplane/rational"
	"halfplane/series"
)

// hecke returns T_n of a valid series with a positive precision.
//
// T_n is the sum over the divisors d of n of chi(d) d^(k-1) times the operator that takes
// a to the series of the a(m n/d) and replaces q by q^d. At a pole the greatest d with
// chi(d) other than 0 has the least order, which no other d has. So the sum is out of
// range if one of its terms is.
func hecke(a api.Series, s api.Spec, n int) (api.Series, api.Errno) {
	sum, _ := series.Contract(a, n)
	divisors, _ := arith.Divisors(n)
	for _, d := range divisors[1:] {
		sign := character(s, d)
		if sign == 0 {
			continue
		}
		b, _ := series.Contract(a, n/d)
		b, e := series.Expand(b, d)
		if e != api.OK {
			return api.Series{}, e
		}
		b, _ = series.Cut(b, end(sum))
		b, _ = series.Scale(factor(s, d, sign), b)
		sum, _ = series.Add(sum, b)
	}
	return sum, api.OK
}

// character returns chi(n).
func character(s api.Spec, n int) int {
	if arith.Gcd(n, s.Level) != 1 {
		return 0
	}
	return arith.Kronecker(s.Disc, n)
}

// factor returns sign d^(k-1).
func factor(s api.Spec, d, sign int) api.Rat {
	power, _ := bigint.Pow(bigint.Of(d), s.Weight-1)
	return rational.Whole(bigint.Mul(bigint.Of(sign), power))
}

// euler returns the numbers a(n) for n from 0 to prec - 1, where a(0) = 0, a(1) = 1, and
// the other ones follow from those of the primes.
func euler(s api.Spec, primes []int, ap []api.Rat, prec int) []api.Rat {
	a := make([]api.Rat, prec)
	for n := range a {
		a[n] = rational.Of(min(n, 1))
	}
	for i, p := range primes {
		twist := factor(s, p, character(s, p))
		for q := p; q < prec; q *= p {
			if q == p {
				a[q] = rational.Normal(ap[i])
			} else {
				a[q] = rational.Sub(rational.Mul(a[p], a[q/p]), rational.Mul(twist, a[q/p/p]))
			}
		}
	}
	for n := 2; n < prec; n++ {
		factors, _ := arith.Factor(n)
		q := powerOf(factors[0])
		if q != n {
			a[n] = rational.Mul(a[q], a[n/q])
		}
	}
	return a
}

// powerOf returns the value of a prime power.
func powerOf(p api.PrimePower) int {
	q := 1
	for range p.Exp {
		q *= p.Prime
	}
	return q
}
