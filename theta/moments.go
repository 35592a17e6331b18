package theta

import (
	"math/bits"

	"halfplane/api"
	"halfplane/bigint"
)

// monomialSums returns the sums of the values of a monomial at the vectors of a box, by
// the values of the form below prec.
func monomialSums(g api.Gram, b []int, exps exponents, prec int) []sum {
	// A value need not be a machine integer, but it is the product of two: a box has at
	// most 2^20 elements, so that the product of all elements of a vector is at most 2^19,
	// and no exponent of the two factors is greater than 3.
	var lower, upper exponents
	for i, x := range exps {
		lower[i], upper[i] = x/2, x-x/2
	}
	sums := make([]sum, prec)
	visitBox(g, b, func(x []int, value int) {
		if value < prec {
			sums[value].add(valueAt(lower, x), valueAt(upper, x))
		}
	})
	return sums
}

// valueAt returns the value of a monomial.
func valueAt(exps exponents, x []int) int {
	value := 1
	for i, c := range x {
		for range exps[i] {
			value *= c
		}
	}
	return value
}

// sum adds up products of machine integers, the positive and the negative ones apart.
type sum struct {
	plus, minus wide
}

// add adds x y.
func (s *sum) add(x, y int) {
	part := &s.plus
	if (x < 0) != (y < 0) {
		part = &s.minus
	}
	part.add(bits.Mul64(uint64(max(x, -x)), uint64(max(y, -y))))
}

// value returns the sum.
func (s *sum) value() api.Int {
	return bigint.Sub(s.plus.value(), s.minus.value())
}

// wide is the sum of its words w[i] 2^(64 i).
type wide [3]uint64

// add adds high 2^64 + low.
func (w *wide) add(high, low uint64) {
	var carry uint64
	w[0], carry = bits.Add64(w[0], low, 0)
	w[1], carry = bits.Add64(w[1], high, carry)
	w[2] += carry
}

// value returns the number as an integer of any size.
func (w *wide) value() api.Int {
	var digits []uint32
	for _, word := range w {
		digits = append(digits, uint32(word), uint32(word>>32))
	}
	return bigint.Normal(api.Int{Mag: digits})
}
