package supersingular

import (
	"cmp"
	"slices"

	"halfplane/api"
	"halfplane/arith"
)

// invariants returns the supersingular invariants in ascending order.
func (f field) invariants() []api.Quad {
	var found []api.Quad
	index := map[api.Quad]int{}
	add := func(j api.Quad) {
		if _, known := index[j]; !known {
			index[j] = len(found)
			found = append(found, j)
		}
	}
	h := f.polynomialH()
	for x := range f.p {
		// Conjugates have conjugate values, because the coefficients are residues.
		for y := range f.p/2 + 1 {
			t := api.Quad{X: x, Y: y}
			if isZero(f.value(h, t)) {
				j := f.invariant(t)
				add(j)
				add(f.conjugate(j))
			}
		}
	}
	slices.SortFunc(found, func(a, b api.Quad) int {
		return cmp.Or(cmp.Compare(a.X, b.X), cmp.Compare(a.Y, b.Y))
	})
	return found
}

// polynomialH returns the coefficients of H, the squares of the binomial
// coefficients (m choose i), modulo p.
func (f field) polynomialH() []int {
	m := (f.p - 1) / 2
	h := make([]int, m+1)
	choose := 1
	for i := range h {
		h[i] = choose * choose % f.p
		inverse, _ := arith.Inverse(i+1, f.p)
		choose = choose * (m - i) % f.p * inverse % f.p
	}
	return h
}

// invariant returns 256 (t^2 - t + 1)^3 / (t^2 (t - 1)^2), where t is neither 0 nor 1.
func (f field) invariant(t api.Quad) api.Quad {
	u := f.product(t, f.sum(t, api.Quad{X: f.p - 1}))
	v := f.sum(u, api.Quad{X: 1})
	cube := f.product(v, f.product(v, v))
	j := f.product(cube, f.inverse(f.product(u, u)))
	return f.product(api.Quad{X: 256 % f.p}, j)
}

// weight returns the weight of the invariant j.
func (f field) weight(j api.Quad) int {
	switch j {
	case api.Quad{}:
		return 3
	case api.Quad{X: 1728 % f.p}:
		return 2
	}
	return 1
}
