package boundary

import (
	"halfplane/api"
	"halfplane/arith"
	"halfplane/manin"
	"halfplane/projline"
	"halfplane/rational"
)

// vector is a pair of coprime integers, which stands for a generator.
type vector struct{ x, y int }

// compare reports whether relations say that the generator of v is that of w, and whether
// they say that it is the negative of it; both are true if the generator is 0.
func compare(s api.Spec, v, w vector) (positive, negative bool) {
	g := arith.Gcd(w.y, s.Level)
	// A relation with e = -1 and l is that with e = 1 and -l, because chi(-1) is (-1)^k.
	for l := 1; l <= s.Level; l++ {
		if arith.Gcd(l, s.Level) == 1 && (v.y-l*w.y)%s.Level == 0 && (v.x*l-w.x)%g == 0 {
			sign := arith.Kronecker(s.Disc, l)
			positive = positive || sign == 1
			negative = negative || sign == -1
		}
	}
	return positive, negative
}

// locate returns the index of a basis cusp and the sign for which the generator of v is
// sign times that of the cusp, or 0 and 0 if the generator of v is 0.
func locate(s api.Spec, basis []api.Cusp, v vector) (index, sign int) {
	for i, c := range basis {
		positive, negative := compare(s, v, vector{c.P, c.Q})
		if positive {
			return i, 1
		}
		if negative {
			return i, -1
		}
	}
	return 0, 0
}

// boundaryOf returns the boundary of the Manin symbol number n.
func boundaryOf(s api.Spec, basis []api.Cusp, n int) []api.Rat {
	x, _ := manin.Symbol(s, n)
	index, _ := projline.Index(s.Level, x.U, x.V)
	g, _ := projline.Lift(s.Level, index)
	row := make([]api.Rat, len(basis))
	add := func(v vector, factor int) {
		if i, sign := locate(s, basis, v); sign != 0 {
			row[i] = rational.Add(row[i], rational.Of(factor*sign))
		}
	}
	// X^i Y^(w-i) is 1 at (1, 0) if i is w, and at (0, 1) if i is 0, and otherwise 0.
	if x.Exp == s.Weight-2 {
		add(vector{g.A, g.C}, 1)
	}
	if x.Exp == 0 {
		add(vector{g.B, g.D}, -1)
	}
	return row
}
