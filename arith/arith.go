// Package arith is layer 3: divisibility, primes, arithmetic functions and
// residues of machine integers.
package arith

import (
	"halfplane/api"
)

// Gcd returns the greatest common divisor, or 0 if that would be 2^63.
func Gcd(a, b int) int {
	x, y := absolute(a), absolute(b)
	for y != 0 {
		x, y = y, x%y
	}
	if x == 1<<63 {
		return 0
	}
	return int(x)
}

// Xgcd returns the greatest common divisor g with u * a + v * b = g and the least u >= 0 (if b is not 0).
func Xgcd(a, b int) (g, u, v int, e api.Errno) {
	if absolute(a) > api.MaxArith || absolute(b) > api.MaxArith {
		return 0, 0, 0, api.ErrRange
	}
	if b == 0 {
		switch {
		case a < 0:
			return -a, -1, 0, api.OK
		case a == 0:
			return 0, 0, 0, api.OK
		}
		return a, 1, 0, api.OK
	}
	g, u = divisorAndFactor(a, b)
	return g, u, (g - u*a) / b, api.OK
}

// divisorAndFactor returns the greatest common divisor g of a and b, which is
// not 0, and the least u >= 0 such that u * a is g modulo b.
func divisorAndFactor(a, b int) (g, u int) {
	// x and y are s*a and t*a modulo b.
	x, y := a, b
	s, t := 1, 0
	for y != 0 {
		q := x / y
		x, y = y, x-q*y
		s, t = t, s-q*t
	}
	if x < 0 {
		x, s = -x, -s
	}
	return x, residue(s, int(absolute(b))/x)
}

// absolute returns |n|, also for the least machine integer.
func absolute(n int) uint64 {
	if n < 0 {
		return -uint64(n)
	}
	return uint64(n)
}

// residue returns the residue of a modulo m > 0.
func residue(a, m int) int {
	r := a % m
	if r < 0 {
		r += m
	}
	return r
}

// inRange reports whether n is from 1 to MaxArith.
func inRange(n int) bool {
	return n >= 1 && n <= api.MaxArith
}
