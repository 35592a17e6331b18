package trace

import (
	"halfplane/api"
	"halfplane/arith"
	"halfplane/bigint"
	"halfplane/quadform"
	"halfplane/rational"
)

// mainTerm returns the main term.
func mainTerm(s api.Spec, n int) api.Rat {
	m, square, _ := bigint.Sqrt(bigint.Of(n))
	if !square {
		return rational.Of(0)
	}
	power, _ := bigint.Pow(m, s.Weight-2)
	root, _ := bigint.Small(m)
	factor := arith.Kronecker(s.Disc, root) * (s.Weight - 1) * psi(s.Level)
	return fraction(bigint.Mul(power, bigint.Of(factor)), 12)
}

// ellipticTerm returns the elliptic term.
func ellipticTerm(s api.Spec, n int) api.Rat {
	sum := rational.Of(0)
	for t := 1 - 2*n; t < 2*n; t++ {
		if t*t < 4*n {
			sum = rational.Add(sum, ellipticPart(s, n, t))
		}
	}
	return half(sum)
}

// ellipticPart returns the summand of t.
func ellipticPart(s api.Spec, n, t int) api.Rat {
	d := t*t - 4*n
	sum := rational.Of(0)
	for e := 1; e*e <= -d; e++ {
		if d%(e*e) != 0 {
			continue
		}
		// There is an error if the quotient is neither 0 nor 1 modulo 4.
		if h, err := quadform.Weighted(d / (e * e)); err == api.OK {
			sum = rational.Add(sum, rational.Mul(h, rational.Of(multiplicity(s, n, t, e))))
		}
	}
	return rational.Mul(sum, rational.Whole(coefficient(s.Weight-2, t, n)))
}

// coefficient returns the coefficient of X^i in 1/(1 - t X + n X^2).
func coefficient(i, t, n int) api.Int {
	before, p := bigint.Of(0), bigint.Of(1)
	for range i {
		before, p = p, bigint.Sub(bigint.Mul(bigint.Of(t), p), bigint.Mul(bigint.Of(n), before))
	}
	return p
}

// multiplicity returns the factor M of the class number.
func multiplicity(s api.Spec, n, t, e int) int {
	g := arith.Gcd(s.Level, e)
	sum := 0
	for a := 1; a <= s.Level; a++ {
		if arith.Gcd(a, s.Level) == 1 && isRoot(a, s.Level, g, t, n) {
			sum += arith.Kronecker(s.Disc, a)
		}
	}
	return psi(s.Level) / psi(s.Level/g) * sum
}

// isRoot reports whether there is a number b that is a modulo the level, with
// b^2 - t b + n = 0 modulo g times the level.
func isRoot(a, level, g, t, n int) bool {
	for i := range g {
		if b := a + i*level; (b*b-t*b+n)%(level*g) == 0 {
			return true
		}
	}
	return false
}

// hyperbolicTerm returns the hyperbolic term.
func hyperbolicTerm(s api.Spec, n int) api.Rat {
	sum := rational.Of(0)
	divisors, _ := arith.Divisors(n)
	for _, d := range divisors {
		power, _ := bigint.Pow(bigint.Of(min(d, n/d)), s.Weight-1)
		sum = rational.Add(sum, rational.Whole(bigint.Mul(power, bigint.Of(cuspSum(s, d, n/d)))))
	}
	return half(sum)
}

// cuspSum returns the sum over the divisors of the level that belongs to n = first * second.
func cuspSum(s api.Spec, first, second int) int {
	conductor := max(s.Disc, -s.Disc)
	sum := 0
	divisors, _ := arith.Divisors(s.Level)
	for _, c := range divisors {
		g := arith.Gcd(c, s.Level/c)
		if s.Level/conductor%g != 0 || (second-first)%g != 0 {
			continue
		}
		// It determines y modulo a multiple of the conductor. Because n is prime to the level,
		// y is, too.
		y, _ := arith.Crt([]api.Congruence{{R: first, M: c}, {R: second, M: s.Level / c}})
		phi, _ := arith.Phi(g)
		sum += phi * arith.Kronecker(s.Disc, y.R)
	}
	return sum
}

// weight2Term returns the term for weight 2.
func weight2Term(s api.Spec, n int) api.Rat {
	if s.Weight != 2 || s.Disc != 1 {
		return rational.Of(0)
	}
	sum, _ := arith.Sigma(1, n)
	return rational.Whole(sum)
}

// psi returns n times the product of 1 + 1/p over the primes p that divide n.
func psi(n int) int {
	psi, _ := arith.Psi(n)
	return psi
}

// half returns x/2.
func half(x api.Rat) api.Rat {
	x, _ = rational.Quo(x, rational.Of(2))
	return x
}

// fraction returns n/d, for d other than 0.
func fraction(n api.Int, d int) api.Rat {
	x, _ := rational.Make(n, bigint.Of(d))
	return x
}
