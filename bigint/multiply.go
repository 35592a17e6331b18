package bigint

import "math/bits"

// Factors with fewer digits than this are multiplied digit by digit, because
// Karatsuba's method gains nothing for them.
const karatsubaDigits = 48

// product returns x * y.
func product(x, y []uint32) []uint32 {
	if len(x) < len(y) {
		x, y = y, x
	}
	half := (len(x) + 1) / 2
	switch {
	case len(y) == 0:
		return nil
	case len(x) <= 2:
		return productOfWords(toWord(x), toWord(y))
	case len(y) < karatsubaDigits:
		return productByDigits(x, y)
	case len(y) <= half:
		z := make([]uint32, len(x)+len(y))
		copy(z, product(trim(x[:half]), y))
		addTo(z[half:], product(x[half:], y))
		return trim(z)
	}
	return karatsuba(x, y, half)
}

// productOfWords returns x * y.
func productOfWords(x, y uint64) []uint32 {
	high, low := bits.Mul64(x, y)
	if high == 0 {
		return fromWord(low)
	}
	return trim([]uint32{uint32(low), uint32(low >> 32), uint32(high), uint32(high >> 32)})
}

// productByDigits multiplies every digit of x by every digit of y.
func productByDigits(x, y []uint32) []uint32 {
	z := make([]uint32, len(x)+len(y))
	for i, d := range y {
		z[i+len(x)] = addMultiple(z[i:i+len(x)], x, d)
	}
	return trim(z)
}

// addMultiple adds x * d to z, which has as many digits as x, in place and returns the carry.
func addMultiple(z, x []uint32, d uint32) uint32 {
	var carry uint64
	for i, digit := range x {
		w := uint64(digit)*uint64(d) + uint64(z[i]) + carry
		z[i] = uint32(w)
		carry = w >> 32
	}
	return uint32(carry)
}

// karatsuba multiplies with three products of about half the digits. Both
// factors have more than half digits.
func karatsuba(x, y []uint32, half int) []uint32 {
	x0, x1 := trim(x[:half]), x[half:]
	y0, y1 := trim(y[:half]), y[half:]
	low, high := product(x0, y0), product(x1, y1)
	middle := product(sum(x0, x1), sum(y0, y1))
	subtractFrom(middle, low)
	subtractFrom(middle, high)
	z := make([]uint32, len(x)+len(y))
	copy(z, low)
	copy(z[2*half:], high)
	addTo(z[half:], trim(middle))
	return trim(z)
}

// square returns x * x.
func square(x []uint32) []uint32 {
	return product(x, x)
}

// power returns x^n for n >= 0.
func power(x []uint32, n int) []uint32 {
	z := []uint32{1}
	for i := bits.Len(uint(n)) - 1; i >= 0; i-- {
		z = square(z)
		if n>>uint(i)&1 == 1 {
			z = product(z, x)
		}
	}
	return z
}
