package theta

import (
	"halfplane/api"
	"halfplane/arith"
	"halfplane/bigint"
	"halfplane/matrix"
	"halfplane/rational"
)

// maxChange is the greatest absolute value of an element of a change of basis.
const maxChange = 100

// within reports whether the absolute values of all numbers are at most limit.
func within(l []int, limit int) bool {
	for _, x := range l {
		if x < -limit || x > limit {
			return false
		}
	}
	return true
}

// isPrec reports whether prec is a precision of theta series.
func isPrec(prec int) bool {
	return prec >= 0 && prec <= api.MaxPrec
}

// isEven reports whether the matrix is symmetric with an even diagonal.
func isEven(g api.Gram) bool {
	for i := range g.Rank {
		if g.A[i*g.Rank+i]%2 != 0 {
			return false
		}
		for j := range i {
			if g.A[i*g.Rank+j] != g.A[j*g.Rank+i] {
				return false
			}
		}
	}
	return true
}

// isPositive reports whether a symmetric matrix is positive definite.
func isPositive(g api.Gram) bool {
	plus, _, _, _ := matrix.Signature(fractions(g.Rank, g.A))
	return plus == g.Rank
}

// fractions returns a square matrix of integers as a matrix of fractions.
func fractions(n int, l []int) api.Matrix {
	m, _ := matrix.New(n, n)
	for i, x := range l {
		m.A[i] = rational.Of(x)
	}
	return m
}

// det returns the determinant of a square matrix of integers.
func det(n int, l []int) api.Int {
	x, _ := matrix.Det(fractions(n, l))
	d, _ := rational.Integer(x)
	return d
}

// isUnit reports whether d is 1 or -1.
func isUnit(d api.Int) bool {
	n, ok := bigint.Small(bigint.Abs(d))
	return ok && n == 1
}

// inverse returns the inverse of the matrix, row by row.
func inverse(g api.Gram) []api.Rat {
	m, _ := matrix.Inverse(fractions(g.Rank, g.A))
	return m.A
}

// level returns the least N for which N times the inverse is an even matrix of integers.
func level(g api.Gram) (int, api.Errno) {
	half, _ := rational.Make(bigint.Of(1), bigint.Of(2))
	n := bigint.Of(1)
	for k, x := range inverse(g) {
		if k%(g.Rank+1) == 0 {
			x = rational.Mul(x, half)
		}
		quotient, _ := bigint.Exact(x.Den, bigint.Gcd(n, x.Den))
		n = bigint.Mul(n, quotient)
	}
	word, ok := bigint.Small(n)
	if !ok || word > api.KindLevel {
		return 0, api.ErrLarge
	}
	return word, api.OK
}

// disc returns 1 or the discriminant of the field of the root of (-1)^(n/2) det A, for an
// even n. It is that one whose product with this number is a square, so that the
// determinant, which may be great, need not be factored.
func disc(g api.Gram) (int, api.Errno) {
	sign := 1 - g.Rank%4
	d := det(g.Rank, g.A)
	for n := 1; n <= api.KindLevel; n++ {
		_, f, e := arith.Fundamental(sign * n)
		if e != api.OK || f != 1 {
			continue
		}
		if _, square, _ := bigint.Sqrt(bigint.Mul(d, bigint.Of(n))); square {
			return sign * n, api.OK
		}
	}
	return 0, api.ErrLarge
}

// changed returns the matrix u A u^t.
func changed(g api.Gram, u []int) []int {
	n := g.Rank
	transposed := make([]int, n*n)
	for i := range n {
		for j := range n {
			transposed[j*n+i] = u[i*n+j]
		}
	}
	return product(n, product(n, u, g.A), transposed)
}

// product returns the product of two square matrices.
func product(n int, a, b []int) []int {
	c := make([]int, n*n)
	for i := range n {
		for j := range n {
			for k := range n {
				c[i*n+j] += a[i*n+k] * b[k*n+j]
			}
		}
	}
	return c
}

// limited returns the even form with a matrix, or an error if an element is too great.
func limited(rank int, l []int) (api.Gram, api.Errno) {
	if !within(l, api.MaxGram) {
		return api.Gram{}, api.ErrLarge
	}
	return api.Gram{Rank: rank, A: l}, api.OK
}
