package supersingular

import (
	"slices"

	"halfplane/api"
	"halfplane/arith"
)

// field is the field with p^2 elements X + Y * s, where s^2 is r. Its methods, other than
// element, require elements with X and Y from 0 to p - 1, and all return such elements.
type field struct{ p, r int }

// fieldOf returns the field with p^2 elements, or the first error of p.
func fieldOf(p int) (field, api.Errno) {
	if p < 5 || p > api.MaxSuper {
		return field{}, api.ErrRange
	}
	if prime, _ := arith.IsPrime(p); !prime {
		return field{}, api.ErrPrime
	}
	r := 2
	for arith.Kronecker(r, p) == 1 {
		r++
	}
	return field{p, r}, api.OK
}

// element returns the element whose X and Y are the residues of those of a.
func (f field) element(a api.Quad) api.Quad {
	return api.Quad{X: f.residue(a.X), Y: f.residue(a.Y)}
}

// residue returns the residue of n modulo p.
func (f field) residue(n int) int {
	n %= f.p
	if n < 0 {
		n += f.p
	}
	return n
}

// sum returns a + b.
func (f field) sum(a, b api.Quad) api.Quad {
	return api.Quad{X: (a.X + b.X) % f.p, Y: (a.Y + b.Y) % f.p}
}

// product returns a * b.
func (f field) product(a, b api.Quad) api.Quad {
	return api.Quad{
		X: (a.X*b.X + f.r*a.Y*b.Y) % f.p,
		Y: (a.X*b.Y + a.Y*b.X) % f.p,
	}
}

// conjugate returns X - Y * s.
func (f field) conjugate(a api.Quad) api.Quad {
	return api.Quad{X: a.X, Y: f.residue(-a.Y)}
}

// inverse returns the inverse of a, which is not 0: its conjugate, divided by its norm.
func (f field) inverse(a api.Quad) api.Quad {
	b := f.conjugate(a)
	factor, _ := arith.Inverse(f.product(a, b).X, f.p)
	return api.Quad{X: b.X * factor % f.p, Y: b.Y * factor % f.p}
}

// value returns the value at t of the polynomial whose coefficients are the residues c,
// that of t^i with the index i.
func (f field) value(c []int, t api.Quad) api.Quad {
	var v api.Quad
	for _, x := range slices.Backward(c) {
		v = f.product(v, t)
		v.X = (v.X + x) % f.p
	}
	return v
}

// isZero reports whether a, with residues X and Y, is 0.
func isZero(a api.Quad) bool {
	return a == api.Quad{}
}
