package bigint

import (
	"math/bits"
	"slices"
)

// divide returns the quotient and the remainder of x by y, which is not 0.
func divide(x, y []uint32) (quotient, rest []uint32) {
	switch {
	case compare(x, y) < 0:
		return nil, slices.Clone(x)
	case len(x) <= 2:
		v, w := toWord(x), toWord(y)
		return fromWord(v / w), fromWord(v % w)
	case len(y) == 1:
		quotient = slices.Clone(x)
		r := divideByDigit(quotient, y[0])
		return trim(quotient), fromWord(uint64(r))
	}
	return longDivision(x, y)
}

// divideByDigit replaces x by its quotient by d and returns the remainder.
func divideByDigit(x []uint32, d uint32) uint32 {
	var r uint64
	for i := len(x) - 1; i >= 0; i-- {
		w := r<<32 | uint64(x[i])
		x[i] = uint32(w / uint64(d))
		r = w % uint64(d)
	}
	return uint32(r)
}

// longDivision is Knuth's algorithm D for a divisor of at least two digits and
// a dividend of at least as many. Both are shifted such that the highest bit of
// the divisor is set, because then a digit of the quotient can be estimated
// from the first digits.
func longDivision(x, y []uint32) (quotient, rest []uint32) {
	shift := bits.LeadingZeros32(y[len(y)-1])
	y = shiftLeft(y, shift)
	u := make([]uint32, len(x)+1)
	copy(u, shiftLeft(x, shift))
	n := len(y)
	quotient = make([]uint32, len(u)-n)
	for j := len(quotient) - 1; j >= 0; j-- {
		digit := estimate(u[j:j+n+1], y)
		part := u[j : j+n+1]
		if subtractMultiple(part, y, digit) {
			digit--
			part[n] += addTo(part[:n], y)
		}
		quotient[j] = digit
	}
	return trim(quotient), shiftRight(trim(u[:n]), shift)
}

// estimate returns the quotient of u by y, where u has one digit more than y
// and the quotient is a digit, or a number that is greater than it by one.
func estimate(u, y []uint32) uint32 {
	n := len(y)
	top := uint64(u[n])<<32 | uint64(u[n-1])
	first := uint64(y[n-1])
	digit, r := top/first, top%first
	for digit >= 1<<32 || digit*uint64(y[n-2]) > r<<32|uint64(u[n-2]) {
		digit--
		r += first
		if r >= 1<<32 {
			break
		}
	}
	return uint32(digit)
}

// subtractMultiple subtracts y * d from u, which has one digit more than y, in
// place and reports whether the difference is negative.
func subtractMultiple(u, y []uint32, d uint32) bool {
	var carry uint64
	var borrow uint32
	for i, digit := range y {
		w := uint64(digit)*uint64(d) + carry
		carry = w >> 32
		u[i], borrow = bits.Sub32(u[i], uint32(w), borrow)
	}
	n := len(y)
	u[n], borrow = bits.Sub32(u[n], uint32(carry), borrow)
	return borrow != 0
}
