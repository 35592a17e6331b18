package matrix

import (
	"math/bits"

	"halfplane/api"
	"halfplane/bigint"
	"halfplane/rational"
)

// digit is the number of binary digits of a digit of api.Int.
const digit = 32

// allocation is the time it takes to make a number, in products of digits.
const allocation = 16

// product returns a * b.
func product(a, b api.Matrix) api.Matrix {
	left, leftFactors := integralRows(rows(a))
	right, rightFactors := integralRows(columns(b))
	m := api.Matrix{Rows: a.Rows, Cols: b.Cols, A: make([]api.Rat, 0, a.Rows*b.Cols)}
	for i, l := range integralProduct(left, transposed(right, b.Rows), b.Cols) {
		for j, x := range l {
			m.A = append(m.A, scaled(x, leftFactors[i], rightFactors[j]))
		}
	}
	return m
}

// scaled returns x * f * g.
func scaled(x api.Int, f, g api.Rat) api.Rat {
	if bigint.Sign(x) == 0 {
		return rational.Of(0)
	}
	if isOne(f.Num) && isOne(f.Den) && isOne(g.Num) && isOne(g.Den) {
		return rational.Whole(x)
	}
	return rational.Mul(rational.Mul(f, g), api.Rat{Num: x, Den: bigint.Of(1)})
}

// transposed returns the columns of the matrix with these rows of n elements.
func transposed(rows [][]api.Int, n int) [][]api.Int {
	l := make([][]api.Int, n)
	for j := range l {
		l[j] = make([]api.Int, len(rows))
		for i, x := range rows {
			l[j][i] = x[j]
		}
	}
	return l
}

// integralProduct returns the product of two matrices, of which the second one has
// rows of n elements.
func integralProduct(a, b [][]api.Int, n int) [][]api.Int {
	most := bitsOf(a) + bitsOf(b) + bits.Len(uint(len(b)))
	// No element of the product has as many binary digits as a block, so that there is
	// one left for the sign.
	size := most/digit + 1
	product := productByTerms
	if isDense(b, n, bitsOf(a)/digit+1, size) {
		product = func(a, b [][]api.Int, n int) [][]api.Int { return packedProduct(a, b, n, size) }
	}
	return product(a, b, n)
}

// bitsOf returns the number of binary digits of the greatest element.
func bitsOf(rows [][]api.Int) int {
	n := 0
	for _, l := range rows {
		for _, x := range l {
			n = max(n, bigint.Bits(x))
		}
	}
	return n
}

// isDense reports whether products with the rows of b, by factors of so many digits,
// take less time if the rows are packed into blocks of the size. The times are compared
// for one digit of a factor.
func isDense(b [][]api.Int, n, digits, size int) bool {
	time := 0
	for _, l := range b {
		for _, x := range l {
			if bigint.Sign(x) != 0 {
				time += allocation/(digits+1) + bigint.Bits(x)/digit + 2
			}
		}
	}
	return len(b)*n*size <= time
}

// productByTerms is integralProduct by products of elements that are not 0.
func productByTerms(a, b [][]api.Int, n int) [][]api.Int {
	terms := make([][]int, len(b))
	for k, l := range b {
		for j, x := range l {
			if bigint.Sign(x) != 0 {
				terms[k] = append(terms[k], j)
			}
		}
	}
	product := make([][]api.Int, len(a))
	for i, l := range a {
		product[i] = make([]api.Int, n)
		for k, x := range l {
			if bigint.Sign(x) == 0 {
				continue
			}
			for _, j := range terms[k] {
				product[i][j] = bigint.Add(product[i][j], bigint.Mul(x, b[k][j]))
			}
		}
	}
	return product
}

// packedProduct is integralProduct by sums of multiples of packed rows.
func packedProduct(a, b [][]api.Int, n, size int) [][]api.Int {
	packed := make([]api.Int, len(b))
	for k, l := range b {
		packed[k] = pack(l, size)
	}
	product := make([][]api.Int, len(a))
	for i, l := range a {
		var sum api.Int
		for k, x := range l {
			if bigint.Sign(x) != 0 {
				sum = bigint.Add(sum, bigint.Mul(x, packed[k]))
			}
		}
		product[i] = unpack(sum, n, size)
	}
	return product
}

// pack returns the sum of the elements times powers of 2^32 to the power size: a number
// that consists of blocks of so many digits, if the elements are small enough.
func pack(l []api.Int, size int) api.Int {
	plus, minus := make([]uint32, len(l)*size), make([]uint32, len(l)*size)
	for j, x := range l {
		if x.Neg {
			copy(minus[j*size:], x.Mag)
		} else {
			copy(plus[j*size:], x.Mag)
		}
	}
	return bigint.Sub(api.Int{Mag: plus}, api.Int{Mag: minus})
}

// unpack returns the n integers that are packed in a; they are less than half of a
// block.
func unpack(a api.Int, n, size int) []api.Int {
	l := make([]api.Int, n)
	base := api.Int{Mag: append(make([]uint32, size), 1)}
	rest := a.Mag
	carry := 0
	for j := 0; j < n && (len(rest) > 0 || carry > 0); j++ {
		block := rest[:min(size, len(rest))]
		rest = rest[len(block):]
		x := bigint.Add(api.Int{Mag: block}, bigint.Of(carry))
		carry = 0
		if bigint.Bits(x) >= size*digit {
			x = bigint.Sub(x, base)
			carry = 1
		}
		if a.Neg {
			x = bigint.Neg(x)
		}
		l[j] = x
	}
	return l
}
