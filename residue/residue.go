// Package residue computes with residues modulo primes that are small enough for
// machine words, and finds integers and fractions by their residues modulo many such
// primes. It is no layer of the document: layers use it where the numbers that occur
// on the way would be much greater than their results.
//
// Residues modulo a prime p are from 0 to p - 1.
package residue

import (
	"math/bits"

	"halfplane/api"
)

// Prime is a prime less than 2^31.
type Prime struct {
	p       uint64
	inverse uint64 // the integral part of (2^64 - 1) / p
}

// Of returns the prime p.
func Of(p int) Prime {
	return Prime{uint64(p), ^uint64(0) / uint64(p)}
}

// First returns the greatest prime.
func First() Prime {
	return Of(1<<31 - 1)
}

// Next returns the greatest prime that is less than q, which is not one of the
// smallest. (There are a hundred million of them.)
func (q Prime) Next() Prime {
	n := int(q.p) - 2
	for !isPrime(n) {
		n -= 2
	}
	return Of(n)
}

// Int returns the residue of a.
func (q Prime) Int(a api.Int) uint64 {
	var r uint64
	for i := len(a.Mag) - 1; i >= 0; i-- {
		r = q.reduce(r<<32 | uint64(a.Mag[i]))
	}
	if a.Neg {
		return q.negative(r)
	}
	return r
}

// Rows returns the residues of the elements of a matrix.
func (q Prime) Rows(rows [][]api.Int) [][]uint64 {
	l := make([][]uint64, len(rows))
	for i, row := range rows {
		l[i] = make([]uint64, len(row))
		for j, a := range row {
			l[i][j] = q.Int(a)
		}
	}
	return l
}

// reduce returns the residue of a word.
func (q Prime) reduce(x uint64) uint64 {
	// The quotient is too small by at most 1.
	quotient, _ := bits.Mul64(x, q.inverse)
	r := x - quotient*q.p
	if r >= q.p {
		r -= q.p
	}
	return r
}

// negative returns the residue of -a.
func (q Prime) negative(a uint64) uint64 {
	if a == 0 {
		return 0
	}
	return q.p - a
}

// power returns a to the power n.
func (q Prime) power(a, n uint64) uint64 {
	x := uint64(1)
	for ; n > 0; n /= 2 {
		if n%2 == 1 {
			x = q.reduce(x * a)
		}
		a = q.reduce(a * a)
	}
	return x
}

// invert returns the inverse of a by Fermat's theorem.
func (q Prime) invert(a uint64) uint64 {
	return q.power(a, q.p-2)
}

// isPrime reports whether an odd number n from 63 to 2^31 is a prime. It is one if it
// is a strong probable prime to these bases (Jaeschke).
func isPrime(n int) bool {
	q := Of(n)
	return q.isProbable(2) && q.isProbable(7) && q.isProbable(61)
}

// isProbable reports whether q is a strong probable prime to the base.
func (q Prime) isProbable(base uint64) bool {
	n := q.p - 1
	twos := bits.TrailingZeros64(n)
	x := q.power(base, n>>uint(twos))
	if x == 1 {
		return true
	}
	for range twos {
		if x == n {
			return true
		}
		x = q.reduce(x * x)
	}
	return false
}
