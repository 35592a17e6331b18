package series

import (
	"math/bits"

	"halfplane/api"
	"halfplane/bigint"
	"halfplane/rational"
)

const (
	// digitBits is the number of bits of a digit of an api.Int.
	digitBits = 32
	// wordBits is the number of bits of a machine integer.
	wordBits = 64
)

// product returns the first coefficients of the product of two polynomials with as many
// coefficients, as many as they have.
func product(x, y []api.Rat) []api.Rat {
	a, den := integers(x)
	b, factor := integers(y)
	size := mostBits(a) + mostBits(b) + bits.Len(uint(len(a)))
	if size < wordBits {
		return over(shortProduct(a, b), bigint.Mul(den, factor))
	}
	return over(longProduct(a, b, size/digitBits+1), bigint.Mul(den, factor))
}

// shortProduct returns the product where sums of products are machine integers.
func shortProduct(a, b []api.Int) []api.Int {
	x, y := words(a), words(b)
	sums := make([]int, len(x))
	for i, c := range x {
		if c == 0 {
			continue
		}
		for j := range len(x) - i {
			sums[i+j] += c * y[j]
		}
	}
	l := make([]api.Int, len(sums))
	for i := range len(l) {
		l[i] = bigint.Of(sums[i])
	}
	return l
}

// words returns integers as machine integers.
func words(l []api.Int) []int {
	w := make([]int, len(l))
	for i := range len(w) {
		w[i], _ = bigint.Small(l[i])
	}
	return w
}

// longProduct multiplies the values of the polynomials at 2^(32 width), where width
// digits have room for each coefficient of the product and its sign.
func longProduct(a, b []api.Int, width int) []api.Int {
	return unpack(bigint.Mul(pack(a, width), pack(b, width)), len(a), width)
}

// integers returns the numerators of normalized fractions over their least common
// denominator, and this.
func integers(x []api.Rat) ([]api.Int, api.Int) {
	den := bigint.Of(1)
	for _, c := range x {
		den = lcm(den, c.Den)
	}
	num := make([]api.Int, len(x))
	for i := range len(num) {
		factor, _ := bigint.Exact(den, x[i].Den)
		num[i] = bigint.Mul(x[i].Num, factor)
	}
	return num, den
}

// over returns the fractions with these numerators and a common denominator.
func over(num []api.Int, den api.Int) []api.Rat {
	x := make([]api.Rat, len(num))
	for i := range len(x) {
		x[i], _ = rational.Make(num[i], den)
	}
	return x
}

// mostBits returns the greatest number of bits of an integer of the list.
func mostBits(l []api.Int) int {
	most := 0
	for _, a := range l {
		most = max(most, bigint.Bits(a))
	}
	return most
}

// pack returns the sum of l[i] 2^(32 width i).
func pack(l []api.Int, width int) api.Int {
	plus := make([]uint32, len(l)*width)
	minus := make([]uint32, len(l)*width)
	for i, a := range l {
		if a.Neg {
			copy(minus[i*width:], a.Mag)
		} else {
			copy(plus[i*width:], a.Mag)
		}
	}
	return bigint.Sub(api.Int{Mag: plus}, api.Int{Mag: minus})
}

// unpack returns the first count of the integers of which a number was packed, which are
// 2 count - 1, and each less than half of 2^(32 width).
func unpack(value api.Int, count, width int) []api.Int {
	// With a half of that power added to each, all are positive.
	half := make([]uint32, width)
	half[width-1] = 1 << (digitBits - 1)
	halves := make([]uint32, 0, 2*count*width)
	for range 2 * count {
		halves = append(halves, half...)
	}
	digits := bigint.Add(value, api.Int{Mag: halves}).Mag
	l := make([]api.Int, count)
	for i := range count {
		l[i] = bigint.Sub(api.Int{Mag: digits[i*width : (i+1)*width]}, api.Int{Mag: half})
	}
	return l
}
