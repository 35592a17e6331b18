package supersingular

import (
	"slices"

	"halfplane/api"
	"halfplane/bigint"
)

// term stands for c (x^i y^k + x^k y^i), or for c x^i y^i if i = k.
type term struct {
	i, k int
	c    string
}

// modularTerms returns the terms of Phi_l, or none if l is neither 2 nor 3.
func modularTerms(l int) []term {
	switch l {
	case 2:
		return []term{
			{3, 0, "1"}, {2, 2, "-1"}, {2, 1, "1488"}, {2, 0, "-162000"}, {1, 1, "40773375"},
			{1, 0, "8748000000"}, {0, 0, "-157464000000000"},
		}
	case 3:
		return []term{
			{4, 0, "1"}, {3, 3, "-1"}, {3, 2, "2232"}, {3, 1, "-1069956"}, {3, 0, "36864000"},
			{2, 2, "2587918086"}, {2, 1, "8900222976000"}, {2, 0, "452984832000000"},
			{1, 1, "-770845966336000000"}, {1, 0, "1855425871872000000000"},
		}
	}
	return nil
}

// modularPolynomial returns the coefficients of Phi_l, that of x^i y^k in row i and column
// k, or nil if l is neither 2 nor 3.
func modularPolynomial(l int) [][]api.Int {
	terms := modularTerms(l)
	if terms == nil {
		return nil
	}
	phi := make([][]api.Int, l+2)
	for i := range phi {
		phi[i] = make([]api.Int, l+2)
	}
	for _, t := range terms {
		c, _ := bigint.Parse(t.c)
		phi[t.i][t.k], phi[t.k][t.i] = c, c
	}
	return phi
}

// value returns phi(x, y).
func value(phi [][]api.Int, x, y api.Int) api.Int {
	var sum api.Int
	for _, row := range slices.Backward(phi) {
		var inner api.Int
		for _, c := range slices.Backward(row) {
			inner = bigint.Add(bigint.Mul(inner, y), c)
		}
		sum = bigint.Add(bigint.Mul(sum, x), inner)
	}
	return sum
}
