package quadform

import (
	"cmp"
	"slices"

	"halfplane/api"
	"halfplane/arith"
)

// compose returns the composition of two primitive forms with the same discriminant.
func compose(f, g api.QuadForm) api.QuadForm {
	// Reduced forms keep the numbers small.
	f, _ = reduce(f)
	g, _ = reduce(g)
	g = coprimeTo(f.A, g)
	// With this B both forms are equivalent to forms with the coefficients f.A, B and g.A,
	// B, whose last coefficients are g.A C and f.A C.
	b, _ := arith.Crt([]api.Congruence{{R: f.B, M: 2 * f.A}, {R: g.B, M: 2 * g.A}})
	a := f.A * g.A
	product, _ := reduce(api.QuadForm{A: a, B: b.R, C: (b.R*b.R - disc(f)) / (4 * a)})
	return product
}

// genera returns the genera of a discriminant.
func genera(d int) [][]api.QuadForm {
	all := classes(d)
	isSquare := map[api.QuadForm]bool{}
	var squares []api.QuadForm
	for _, f := range all {
		if g := compose(f, f); !isSquare[g] {
			isSquare[g] = true
			squares = append(squares, g)
		}
	}
	counted := map[api.QuadForm]bool{}
	var l [][]api.QuadForm
	for _, f := range all {
		if counted[f] {
			continue
		}
		var genus []api.QuadForm
		for _, g := range squares {
			h := compose(f, g)
			counted[h] = true
			genus = append(genus, h)
		}
		slices.SortFunc(genus, order)
		l = append(l, genus)
	}
	return l
}

// order compares forms by their coefficients.
func order(f, g api.QuadForm) int {
	return cmp.Or(cmp.Compare(f.A, g.A), cmp.Compare(f.B, g.B), cmp.Compare(f.C, g.C))
}
