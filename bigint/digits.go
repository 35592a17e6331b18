package bigint

import (
	"math/bits"
	"slices"
)

// trim returns x without its leading zeros; it shares the memory of x.
func trim(x []uint32) []uint32 {
	n := len(x)
	for n > 0 && x[n-1] == 0 {
		n--
	}
	return x[:n]
}

// fromWord returns w as a magnitude.
func fromWord(w uint64) []uint32 {
	switch {
	case w == 0:
		return nil
	case w>>32 == 0:
		return []uint32{uint32(w)}
	}
	return []uint32{uint32(w), uint32(w >> 32)}
}

// toWord returns a magnitude of at most two digits as a word.
func toWord(x []uint32) uint64 {
	switch len(x) {
	case 0:
		return 0
	case 1:
		return uint64(x[0])
	}
	return uint64(x[1])<<32 | uint64(x[0])
}

// bitLength returns the number of binary digits of x.
func bitLength(x []uint32) int {
	if len(x) == 0 {
		return 0
	}
	return 32*(len(x)-1) + bits.Len32(x[len(x)-1])
}

// compare returns -1, 0 or 1 if x is less than, equal to or greater than y.
func compare(x, y []uint32) int {
	switch {
	case len(x) < len(y):
		return -1
	case len(x) > len(y):
		return 1
	}
	for i := len(x) - 1; i >= 0; i-- {
		switch {
		case x[i] < y[i]:
			return -1
		case x[i] > y[i]:
			return 1
		}
	}
	return 0
}

// sum returns x + y.
func sum(x, y []uint32) []uint32 {
	if len(x) < len(y) {
		x, y = y, x
	}
	z := make([]uint32, len(x), len(x)+1)
	copy(z, x)
	if carry := addTo(z, y); carry != 0 {
		z = append(z, carry)
	}
	return z
}

// difference returns x - y, which must not be negative.
func difference(x, y []uint32) []uint32 {
	z := slices.Clone(x)
	subtractFrom(z, y)
	return trim(z)
}

// addTo adds y, which has at most as many digits, to z in place and returns the carry.
func addTo(z, y []uint32) uint32 {
	var carry uint32
	for i, d := range y {
		z[i], carry = bits.Add32(z[i], d, carry)
	}
	for i := len(y); i < len(z) && carry != 0; i++ {
		z[i], carry = bits.Add32(z[i], 0, carry)
	}
	return carry
}

// subtractFrom subtracts y, which has at most as many digits, from z in place and returns the borrow.
func subtractFrom(z, y []uint32) uint32 {
	var borrow uint32
	for i, d := range y {
		z[i], borrow = bits.Sub32(z[i], d, borrow)
	}
	for i := len(y); i < len(z) && borrow != 0; i++ {
		z[i], borrow = bits.Sub32(z[i], 0, borrow)
	}
	return borrow
}

// shiftLeft returns x * 2^n.
func shiftLeft(x []uint32, n int) []uint32 {
	whole, part := n/32, uint(n%32)
	z := make([]uint32, len(x)+whole+1)
	for i, d := range x {
		w := uint64(d) << part
		z[i+whole] |= uint32(w)
		z[i+whole+1] = uint32(w >> 32)
	}
	return trim(z)
}

// shiftRight returns the integral part of x / 2^n.
func shiftRight(x []uint32, n int) []uint32 {
	whole, part := n/32, uint(n%32)
	if whole >= len(x) {
		return nil
	}
	z := slices.Clone(x[whole:])
	for i := range z {
		w := uint64(z[i])
		if i+1 < len(z) {
			w |= uint64(z[i+1]) << 32
		}
		z[i] = uint32(w >> part)
	}
	return trim(z)
}
