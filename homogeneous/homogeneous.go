// Package homogeneous computes with homogeneous polynomials in X and Y over the integers.
// It is no layer of the document: several layers let matrices act on such polynomials.
//
// A polynomial is the list of its coefficients; that of X^n Y^(degree - n) has the index n.
package homogeneous

import (
	"halfplane/api"
	"halfplane/bigint"
)

// Monomial returns (a X + b Y)^exp (c X + d Y)^(degree - exp) for g = (a b; c d), where
// exp is from 0 to the degree.
func Monomial(exp, degree int, g api.Mat2) []api.Int {
	f := []api.Int{bigint.Of(1)}
	for n := range degree {
		if n < exp {
			f = timesLinear(f, g.A, g.B)
		} else {
			f = timesLinear(f, g.C, g.D)
		}
	}
	return f
}

// Substitute returns P(a X + b Y, c X + d Y) for g = (a b; c d) and a polynomial P of the
// degree, of which the last zeros may be missing.
func Substitute(poly []api.Int, degree int, g api.Mat2) []api.Int {
	// This is Horner's rule for P as a polynomial in a X + b Y; power is that of c X + d Y.
	var sum []api.Int
	power := []api.Int{bigint.Of(1)}
	for i := degree; i >= 0; i-- {
		sum = timesLinear(sum, g.A, g.B)
		if i < len(poly) {
			for n, x := range power {
				sum[n] = bigint.Add(sum[n], bigint.Mul(poly[i], x))
			}
		}
		power = timesLinear(power, g.C, g.D)
	}
	return sum
}

// timesLinear returns f times x X + y Y.
func timesLinear(f []api.Int, x, y int) []api.Int {
	product := make([]api.Int, len(f)+1)
	left, right := bigint.Of(x), bigint.Of(y)
	for n, c := range f {
		product[n] = bigint.Add(product[n], bigint.Mul(right, c))
		product[n+1] = bigint.Mul(left, c)
	}
	return product
}
