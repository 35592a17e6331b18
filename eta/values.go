package eta

import (
	"slices"

	"halfplane/api"
	"halfplane/arith"
	"halfplane/rational"
)

// isLevel reports whether n is a level of eta quotients.
func isLevel(n int) bool {
	return n >= 1 && n <= api.KindLevel
}

// isExponent reports whether r is within the limits of exponents.
func isExponent(r int) bool {
	return r >= -api.MaxEta && r <= api.MaxEta
}

// divisors returns the divisors of a level.
func divisors(n int) []int {
	l, _ := arith.Divisors(n)
	return l
}

// sum returns the sum of numbers.
func sum(l []int) int {
	s := 0
	for _, n := range l {
		s += n
	}
	return s
}

// weightedSum returns the sum of d r_d.
func weightedSum(e api.Eta) int {
	s := 0
	for i, d := range divisors(e.Level) {
		s += d * e.Exps[i]
	}
	return s
}

// order returns the order at the cusps with the denominator c as a fraction, not in lowest
// terms, with a positive denominator.
func order(e api.Eta, c int) (num, den int) {
	for i, d := range divisors(e.Level) {
		num += contribution(e.Level, c, d) * e.Exps[i]
	}
	return num, 24 * arith.Gcd(c, e.Level/c) * c
}

// contribution returns the number by which r_d is multiplied in the numerator of the order
// at the denominator c, where the denominator of the order is that of the function order.
func contribution(level, c, d int) int {
	g := arith.Gcd(c, d)
	return g * g * (level / d)
}

// leastSign returns the least sign of an order.
func leastSign(e api.Eta) int {
	least := 1
	for _, c := range divisors(e.Level) {
		num, _ := order(e, c)
		least = min(least, num)
	}
	return least
}

// width returns the width of the cusps with the denominator c.
func width(level, c int) int {
	return level / arith.Gcd(c*c, level)
}

// isModular reports whether the conditions of Gordon, Hughes and Newman are satisfied.
func isModular(e api.Eta) bool {
	reversed := 0
	for i, d := range divisors(e.Level) {
		reversed += e.Level / d * e.Exps[i]
	}
	return sum(e.Exps)%2 == 0 && weightedSum(e)%24 == 0 && reversed%24 == 0
}

// disc returns 1 or the discriminant of the field of the root of (-1)^k s.
func disc(e api.Eta) int {
	root := 1
	if sum(e.Exps)/2%2 != 0 {
		root = -1
	}
	// Squares of common divisors are left out, so that the number remains square-free.
	for i, d := range divisors(e.Level) {
		if e.Exps[i]%2 != 0 {
			root = timesUpToSquares(root, squarefree(d))
		}
	}
	d, _, code := arith.Fundamental(root)
	if code != api.OK {
		d = 4 * root
	}
	return d
}

// squarefree returns n divided by the greatest square that divides it.
func squarefree(n int) int {
	factors, _ := arith.Factor(n)
	m := 1
	for _, f := range factors {
		if f.Exp%2 != 0 {
			m *= f.Prime
		}
	}
	return m
}

// timesUpToSquares returns the square-free number whose quotient by a b is the square of a
// rational number; a and b are square-free.
func timesUpToSquares(a, b int) int {
	g := arith.Gcd(a, b)
	return a / g * (b / g)
}

// powers returns the exponents of 1 - q^n, for n from 1 to count, in the product.
func powers(e api.Eta, count int) []api.Rat {
	l := make([]int, count)
	for i, d := range divisors(e.Level) {
		for n := d; n <= count; n += d {
			l[n-1] += e.Exps[i]
		}
	}
	c := make([]api.Rat, count)
	for i, r := range l {
		c[i] = rational.Of(r)
	}
	return c
}

// at returns e(t z) at a level that is a multiple of t e.Level.
func at(e api.Eta, t, level int) api.Eta {
	old := divisors(e.Level)
	f := api.Eta{Level: level}
	for _, d := range divisors(level) {
		r := 0
		if i, ok := slices.BinarySearch(old, d/t); ok && d%t == 0 {
			r = e.Exps[i]
		}
		f.Exps = append(f.Exps, r)
	}
	return f
}

// limited returns e, or an error if an exponent is beyond the limit.
func limited(e api.Eta) (api.Eta, api.Errno) {
	for _, r := range e.Exps {
		if !isExponent(r) {
			return api.Eta{}, api.ErrLarge
		}
	}
	return e, api.OK
}
