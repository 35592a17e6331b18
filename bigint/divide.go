package bigint

import (
	"math/bits"
	"slices"
)

// divide returns the quotient and the remainder of x by y, which is not 0.
func divide(x, y []uint32) (quotient, rest []uint32) {
	switch {
	case compare(x, y) < 0:
		return nil, slices.Clone(x)
	case len(x) <= 2:
		v, w := toWord(x), toWord(y)
		return fromWord(v / w), fromWord(v % w)
	case len(y) == 1:
		quotient = slices.Clone(x)
		r := divideByDigit(quotient, y[0])
		return trim(quotient), fromWord(uint64(r))
	}
	return longDivision(x, y)
}

// divideByDigit replaces x by its quotient by d and returns the remainder.
func divideByDigit(x []uint32, d uint32) uint32 {
	var r uint64
	for i := len(x) - 1; i >= 0; i-- {
		w := r<<32 | uint64(x[i])
		x[i] = uint32(w / uint64(d))
		r = w % uint64(d)
	}
	return uint32(r)
}

// Quotients with fewer digits than this are found digit by digit, because the
// methods that split a division gain nothing for them.
const splitDigits = 100

// longDivision divides by a divisor of at least two digits. Both numbers are
// shifted such that the highest bit of the divisor is set, because then the first
// digits of the divisor are enough for good estimates of the quotient.
func longDivision(x, y []uint32) (quotient, rest []uint32) {
	shift := bits.LeadingZeros32(y[len(y)-1])
	quotient, rest = divideShifted(shiftLeft(x, shift), shiftLeft(y, shift))
	return quotient, shiftRight(rest, shift)
}

// divideShifted divides by a divisor whose highest bit is set (Burnikel and
// Ziegler). The remainder may share the memory of x.
func divideShifted(x, y []uint32) (quotient, rest []uint32) {
	n := len(x) - len(y)
	switch {
	case compare(x, y) < 0:
		return nil, x
	case n < splitDigits:
		return divideByDigits(x, y)
	case n <= len(y)/2:
		return divideByPart(x, y, len(y)-n-1)
	}
	return divideInParts(x, y, n/2)
}

// divideInParts divides all but the last n digits of x first.
func divideInParts(x, y []uint32, n int) (quotient, rest []uint32) {
	high, rest := divideShifted(x[n:], y)
	low, rest := divideShifted(join(rest, x[:n]), y)
	padded := make([]uint32, n)
	copy(padded, low)
	return join(high, padded), rest
}

// divideByPart estimates the quotient by division without the last n digits of x
// and y. The estimate is never too small, and too great by at most one if it is not
// greater than the divisor that is used; this one has a digit more.
func divideByPart(x, y []uint32, n int) (quotient, rest []uint32) {
	quotient, rest = divideShifted(x[n:], y[n:])
	rest = join(rest, x[:n])
	neglected := product(quotient, trim(y[:n]))
	if compare(rest, neglected) < 0 {
		quotient = difference(quotient, []uint32{1})
		rest = sum(rest, y)
	}
	return quotient, difference(rest, neglected)
}

// join returns the number with the digits of high behind all of those of low.
func join(high, low []uint32) []uint32 {
	return trim(slices.Concat(low, high))
}

// divideByDigits is Knuth's algorithm D for a divisor of at least two digits, the
// highest bit of which is set, and a dividend of at least as many digits.
func divideByDigits(x, y []uint32) (quotient, rest []uint32) {
	n := len(y)
	u := make([]uint32, len(x)+1)
	copy(u, x)
	quotient = make([]uint32, len(u)-n)
	for j := len(quotient) - 1; j >= 0; j-- {
		digit := estimate(u[j:j+n+1], y)
		part := u[j : j+n+1]
		if subtractMultiple(part, y, digit) {
			digit--
			part[n] += addTo(part[:n], y)
		}
		quotient[j] = digit
	}
	return trim(quotient), trim(u[:n])
}

// estimate returns the quotient of u by y, where u has one digit more than y
// and the quotient is a digit, or a number that is greater than it by one.
func estimate(u, y []uint32) uint32 {
	n := len(y)
	top := uint64(u[n])<<32 | uint64(u[n-1])
	first := uint64(y[n-1])
	digit, r := top/first, top%first
	for digit >= 1<<32 || digit*uint64(y[n-2]) > r<<32|uint64(u[n-2]) {
		digit--
		r += first
		if r >= 1<<32 {
			break
		}
	}
	return uint32(digit)
}

// subtractMultiple subtracts y * d from u, which has one digit more than y, in
// place and reports whether the difference is negative.
func subtractMultiple(u, y []uint32, d uint32) bool {
	var carry uint64
	var borrow uint32
	for i, digit := range y {
		w := uint64(digit)*uint64(d) + carry
		carry = w >> 32
		u[i], borrow = bits.Sub32(u[i], uint32(w), borrow)
	}
	n := len(y)
	u[n], borrow = bits.Sub32(u[n], uint32(carry), borrow)
	return borrow != 0
}
