package eisenstein

import (
	"halfplane/api"
	"halfplane/arith"
	"halfplane/bernoulli"
	"halfplane/bigint"
	"halfplane/cyclotomic"
	"halfplane/dirichlet"
	"halfplane/rational"
	"halfplane/series"
)

// quadratic returns the Eisenstein series of the quadratic characters of d1 and d2.
func quadratic(k, d1, d2, prec int) api.Series {
	sums := divisorSums(k, prec, 1, func(m, d int) []int {
		return []int{arith.Kronecker(d1, m) * arith.Kronecker(d2, d)}
	})
	c := rational.Of(0)
	if d1 == 1 {
		c = constant(k, d2)
	}
	return expansion(c, sums[0])
}

// constant returns -B/(2k) for the Bernoulli number B of the quadratic character of d.
func constant(k, d int) api.Rat {
	b, _ := bernoulli.Quadratic(k, d)
	return overWeight(b, k)
}

// overWeight returns -b/(2k).
func overWeight(b api.Rat, k int) api.Rat {
	c, _ := rational.Quo(b, rational.Of(-2*k))
	return c
}

// coordinates returns those of the Eisenstein series of a pair at 1 whose field is that
// of the m-th roots of unity.
func coordinates(k int, p api.EisPair, m, prec int) []api.Series {
	roots := rootsOf(m)
	chi, psi := angles(p.Chi, m), angles(p.Psi, m)
	sums := divisorSums(k, prec, len(roots[0]), func(n, d int) []int {
		x, y := chi[n%len(chi)], psi[d%len(psi)]
		if x < 0 || y < 0 {
			return nil
		}
		return roots[(x+y)%m]
	})
	var b api.Elem
	if p.Chi.Modulus == 1 {
		b, _, _ = bernoulli.Character(k, p.Psi)
	}
	l := make([]api.Series, len(sums))
	for i, sum := range sums {
		c := rational.Of(0)
		if i < len(b) {
			c = overWeight(b[i], k)
		}
		l[i] = expansion(c, sum)
	}
	return l
}

// rootsOf returns the coordinates of the powers of zeta_m.
func rootsOf(m int) [][]int {
	degree, _ := arith.Phi(m)
	roots := make([][]int, m)
	for i := range roots {
		roots[i] = make([]int, degree)
		zeta, _ := cyclotomic.Zeta(m, i)
		for j, x := range zeta {
			n, _ := rational.Integer(x)
			roots[i][j], _ = bigint.Small(n)
		}
	}
	return roots
}

// angles returns the values of a character as exponents of zeta_m, and -1 for the value 0.
func angles(x api.Character, m int) []int {
	l := make([]int, x.Modulus)
	for a := range l {
		value, _ := dirichlet.Value(x, a)
		l[a] = -1
		if !value.Zero {
			l[a] = value.Num * (m / value.Den)
		}
	}
	return l
}

// divisorSums returns, for each coordinate, the sums over the divisors d of n of d^(k-1)
// times the coordinate of value(n/d, d), for all n from 1 to prec - 1, and 0 for n = 0.
// A value may be nil instead of 0.
func divisorSums(k, prec, degree int, value func(m, d int) []int) [][]api.Int {
	sums := make([][]api.Int, degree)
	for i := range sums {
		sums[i] = make([]api.Int, prec)
	}
	for d := 1; d < prec; d++ {
		power, _ := bigint.Pow(bigint.Of(d), k-1)
		for m := 1; m*d < prec; m++ {
			for i, x := range value(m, d) {
				if x != 0 {
					term := bigint.Mul(bigint.Of(x), power)
					sums[i][m*d] = bigint.Add(sums[i][m*d], term)
				}
			}
		}
	}
	return sums
}

// expansion returns the series with a constant term, and sums as its other coefficients.
func expansion(c api.Rat, sums []api.Int) api.Series {
	coef := make([]api.Rat, len(sums))
	for n := range coef {
		coef[n] = rational.Whole(sums[n])
		if n == 0 {
			coef[n] = c
		}
	}
	a, _ := series.Normal(api.Series{Coef: coef})
	return a
}

// at returns E(tz) for the expansion a of E(z), or E(z) - t E(tz) if difference is true,
// which is modular where E itself is not.
func at(a api.Series, t, prec int, difference bool) api.Series {
	b, _ := series.Expand(a, t)
	b, _ = series.Cut(b, prec)
	if difference {
		b, _ = series.Scale(rational.Of(t), b)
		b, _ = series.Sub(a, b)
	}
	return b
}
