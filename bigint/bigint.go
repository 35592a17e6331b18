// Package bigint is layer 1: exact arithmetic with integers of any size.
//
// The exported functions read the signs of their arguments and trim their
// digits; the other functions compute with magnitudes. A magnitude is a list of
// digits to base 2^32, least significant first, without leading zeros (so 0 is
// empty). Functions of magnitudes require trimmed arguments, return new memory,
// and do not change their arguments.
package bigint

import (
	"slices"

	"halfplane/api"
)

// Of returns n.
func Of(n int) api.Int {
	return signed(n < 0, fromWord(absolute(n)))
}

// Small returns a as a machine integer, and whether it is one.
func Small(a api.Int) (int, bool) {
	x := trim(a.Mag)
	if len(x) > 2 {
		return 0, false
	}
	w := toWord(x)
	if a.Neg {
		if w > 1<<63 {
			return 0, false
		}
		return int(-w), true
	}
	if w >= 1<<63 {
		return 0, false
	}
	return int(w), true
}

// Normal returns a, normalized.
func Normal(a api.Int) api.Int {
	return signed(a.Neg, slices.Clone(trim(a.Mag)))
}

// Sign returns -1, 0 or 1 if a is negative, zero or positive.
func Sign(a api.Int) int {
	switch {
	case len(trim(a.Mag)) == 0:
		return 0
	case a.Neg:
		return -1
	}
	return 1
}

// Cmp returns -1, 0 or 1 if a is less than, equal to or greater than b.
func Cmp(a, b api.Int) int {
	s, t := Sign(a), Sign(b)
	switch {
	case s < t:
		return -1
	case s > t:
		return 1
	}
	return s * compare(trim(a.Mag), trim(b.Mag))
}

// Bits returns the number of binary digits of |a|.
func Bits(a api.Int) int {
	return bitLength(trim(a.Mag))
}

// Neg returns -a.
func Neg(a api.Int) api.Int {
	return signed(!a.Neg, slices.Clone(trim(a.Mag)))
}

// Abs returns |a|.
func Abs(a api.Int) api.Int {
	return signed(false, slices.Clone(trim(a.Mag)))
}

// Add returns a + b.
func Add(a, b api.Int) api.Int {
	return addSigned(a.Neg, trim(a.Mag), b.Neg, trim(b.Mag))
}

// Sub returns a - b.
func Sub(a, b api.Int) api.Int {
	return addSigned(a.Neg, trim(a.Mag), !b.Neg, trim(b.Mag))
}

// Mul returns a * b.
func Mul(a, b api.Int) api.Int {
	return signed(a.Neg != b.Neg, product(trim(a.Mag), trim(b.Mag)))
}

// DivMod returns q and r with a = q * b + r and 0 <= r < |b|.
func DivMod(a, b api.Int) (q, r api.Int, e api.Errno) {
	y := trim(b.Mag)
	if len(y) == 0 {
		return api.Int{}, api.Int{}, api.ErrZero
	}
	quotient, rest := divide(trim(a.Mag), y)
	if a.Neg && len(rest) > 0 {
		// -(quotient*y + rest) = -(quotient+1)*y + (y-rest)
		quotient = sum(quotient, []uint32{1})
		rest = difference(y, rest)
	}
	return signed(a.Neg != b.Neg, quotient), signed(false, rest), api.OK
}

// Exact returns a / b if b divides a.
func Exact(a, b api.Int) (api.Int, api.Errno) {
	y := trim(b.Mag)
	if len(y) == 0 {
		return api.Int{}, api.ErrZero
	}
	quotient, rest := divide(trim(a.Mag), y)
	if len(rest) > 0 {
		return api.Int{}, api.ErrInexact
	}
	return signed(a.Neg != b.Neg, quotient), api.OK
}

// signed returns the integer with the trimmed magnitude x, which it keeps.
func signed(neg bool, x []uint32) api.Int {
	if len(x) == 0 {
		return api.Int{}
	}
	return api.Int{Neg: neg, Mag: x}
}

// addSigned adds two integers, each given by a sign and a magnitude.
func addSigned(aNeg bool, x []uint32, bNeg bool, y []uint32) api.Int {
	if aNeg == bNeg {
		return signed(aNeg, sum(x, y))
	}
	if compare(x, y) < 0 {
		return signed(bNeg, difference(y, x))
	}
	return signed(aNeg, difference(x, y))
}

// absolute returns |n|, also for the least machine integer.
func absolute(n int) uint64 {
	if n < 0 {
		return -uint64(n)
	}
	return uint64(n)
}
