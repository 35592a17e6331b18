package cyclotomic

import (
	"slices"

	"halfplane/api"
	"halfplane/arith"
	"halfplane/bigint"
	"halfplane/numfield"
	"halfplane/rational"
)

// polynomial returns the n-th cyclotomic polynomial: the product of all x^d - 1, to the
// power mu(n/d), over the divisors d of n.
func polynomial(n int) api.ZPoly {
	f := []int{1}
	divisors, _ := arith.Divisors(n)
	for _, d := range divisors {
		if sign, _ := arith.Mobius(n / d); sign > 0 {
			f = product(f, d)
		}
	}
	for _, d := range divisors {
		if sign, _ := arith.Mobius(n / d); sign < 0 {
			f = quotient(f, d)
		}
	}
	g := make(api.ZPoly, len(f))
	for i, c := range f {
		g[i] = bigint.Of(c)
	}
	return g
}

// product returns f * (x^d - 1).
func product(f []int, d int) []int {
	g := make([]int, len(f)+d)
	for i, c := range f {
		g[i] -= c
		g[i+d] += c
	}
	return g
}

// quotient returns f / (x^d - 1), which must be a polynomial.
func quotient(f []int, d int) []int {
	g := make([]int, len(f)-d)
	for i := range g {
		g[i] = -f[i]
		if i >= d {
			g[i] += g[i-d]
		}
	}
	return g
}

// field returns the n-th cyclotomic field.
func field(n int) api.Field {
	return api.Field{Modulus: polynomial(n)}
}

// root returns the k-th power of zeta_n.
func root(n, k int) api.Elem {
	return image(n, k, api.Elem{{}, rational.Of(1)})
}

// image returns the value of the polynomial a at the k-th power of zeta_n.
func image(n, k int, a api.Elem) api.Elem {
	sum := make(api.Elem, n)
	k = residue(k, n)
	at := 0
	for _, c := range a {
		sum[at] = rational.Add(sum[at], c)
		at = (at + k) % n
	}
	sum, _ = numfield.Normal(field(n), sum)
	return sum
}

// residue returns the residue of k modulo n.
func residue(k, n int) int {
	k %= n
	if k < 0 {
		k += n
	}
	return k
}

// areEqual reports whether two normalized elements are equal.
func areEqual(a, b api.Elem) bool {
	return slices.EqualFunc(a, b, func(x, y api.Rat) bool { return rational.Cmp(x, y) == 0 })
}
