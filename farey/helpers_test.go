package farey_test

import (
	"math/rand"
	"slices"
	"testing"

	"halfplane/api"
	"halfplane/permutation"
	"halfplane/subgroup"
)

const top = api.MaxEntry

var (
	unit  = api.Mat2{A: 1, D: 1}
	minus = api.Mat2{A: -1, D: -1}
	s     = api.Mat2{B: -1, C: 1}
	t1    = api.Mat2{A: 1, B: 1, D: 1}
	r3    = api.Mat2{B: 1, C: -1, D: 1} // R of this layer

	infinity = api.Cusp{P: 1, Q: 0}

	whole = api.FareySymbol{Vertices: []api.Cusp{{P: 0, Q: 1}}, Labels: []int{api.Even, api.Odd}}
	half  = api.FareySymbol{Vertices: []api.Cusp{{P: 0, Q: 1}}, Labels: []int{api.Odd, api.Odd}}
	two   = api.FareySymbol{Vertices: []api.Cusp{{P: 0, Q: 1}, {P: 1, Q: 1}}, Labels: []int{1, api.Even, 1}}
)

func times(x, y api.Mat2) api.Mat2 {
	return api.Mat2{A: x.A*y.A + x.B*y.C, B: x.A*y.B + x.B*y.D, C: x.C*y.A + x.D*y.C, D: x.C*y.B + x.D*y.D}
}

func inverse(m api.Mat2) api.Mat2 {
	return api.Mat2{A: m.D, B: -m.B, C: -m.C, D: m.A}
}

// isEntries reports whether all entries are small enough.
func isEntries(m api.Mat2) bool {
	return max(m.A, m.B, m.C, m.D) <= top && min(m.A, m.B, m.C, m.D) >= -top
}

// alike reports whether two matrices are equal up to the sign.
func alike(x, y api.Mat2) bool {
	return x == y || x == times(minus, y)
}

// same reports whether two actions are equal.
func same(a, b api.CosetAction) bool {
	return slices.Equal(a.S, b.S) && slices.Equal(a.T, b.T)
}

func isNoAction(a api.CosetAction) bool {
	return len(a.S)+len(a.T) == 0
}

func isNoSymbol(f api.FareySymbol) bool {
	return len(f.Vertices)+len(f.Labels) == 0
}

func clone(f api.FareySymbol) api.FareySymbol {
	return api.FareySymbol{Vertices: slices.Clone(f.Vertices), Labels: slices.Clone(f.Labels)}
}

func equal(f, g api.FareySymbol) bool {
	return slices.Equal(f.Vertices, g.Vertices) && slices.Equal(f.Labels, g.Labels)
}

// shift adds n to all vertices.
func shift(f api.FareySymbol, n int) api.FareySymbol {
	g := clone(f)
	for i, c := range g.Vertices {
		g.Vertices[i].P = c.P + n*c.Q
	}
	return g
}

// integers returns a symbol with the vertices 0 to n and Even sides.
func integers(n int) api.FareySymbol {
	f := api.FareySymbol{Labels: []int{api.Even}}
	for i := range n + 1 {
		f.Vertices = append(f.Vertices, api.Cusp{P: i, Q: 1})
		f.Labels = append(f.Labels, api.Even)
	}
	return f
}

// randomSymbol returns a symbol with n triangles, which are laid beside sides at random,
// and random labels.
func randomSymbol(r *rand.Rand, n int) api.FareySymbol {
	l := []api.Cusp{{P: -1, Q: 0}, {P: r.Intn(7) - 3, Q: 1}, {P: 1, Q: 0}}
	for range n {
		i := r.Intn(len(l) - 1)
		l = slices.Insert(l, i+1, api.Cusp{P: l[i].P + l[i+1].P, Q: l[i].Q + l[i+1].Q})
	}
	f := api.FareySymbol{Vertices: slices.Clone(l[1 : len(l)-1]), Labels: make([]int, len(l)-1)}
	label(r, f.Labels, r.Intn(3))
	if n == 0 {
		f.Labels[r.Intn(2)] = api.Odd
	}
	return f
}

// label writes random labels, with few pairs, many pairs, or as many as can be.
func label(r *rand.Rand, labels []int, pairs int) {
	open := -1
	for _, i := range r.Perm(len(labels)) {
		switch {
		case pairs < 2 && r.Intn(4) >= pairs*3+1:
			labels[i] = api.Even - r.Intn(2)
		case open < 0:
			open = i
		default:
			// The indices of the sides, plus 1, stand for the numbers until these are known.
			labels[i], labels[open] = open+1, open+1
			open = -1
		}
	}
	if open >= 0 {
		labels[open] = api.Odd
	}
	number := map[int]int{}
	for i, x := range labels {
		if x > 0 && number[x] == 0 {
			number[x] = len(number) + 1
		}
		if x > 0 {
			labels[i] = number[x]
		}
	}
	if len(labels) == 2 && labels[0] == 1 {
		labels[0], labels[1] = api.Odd, api.Even
	}
}

// symbols returns symbols of all sorts.
func symbols() []api.FareySymbol {
	r := rand.New(rand.NewSource(1))
	l := []api.FareySymbol{whole, half, two, {Vertices: []api.Cusp{{P: 3, Q: 1}}, Labels: []int{api.Odd, api.Even}}, integers(5)}
	for n := range 30 {
		for range 4 {
			l = append(l, randomSymbol(r, n))
		}
	}
	return l
}

// randomAction returns an action on n points in which S has the order 2.
func randomAction(r *rand.Rand, n int) api.CosetAction {
	for {
		p, q := r.Perm(n), r.Perm(n)
		s, st := make([]int, n), make([]int, n)
		for i := range n {
			s[i], st[i] = i, i
		}
		for i := r.Intn(min(4, n)); i+1 < n; i += 2 {
			s[p[i]], s[p[i+1]] = p[i+1], p[i]
		}
		for i := r.Intn(min(4, n)); i+2 < n; i += 3 {
			st[q[i]], st[q[i+1]], st[q[i+2]] = q[i+1], q[i+2], q[i]
		}
		a := api.CosetAction{S: s, T: make([]int, n)}
		for i, x := range s {
			a.T[x] = st[i]
		}
		if permutation.Check(a) == api.OK {
			return a
		}
	}
}

// of returns the coset action of a standard group.
func of(t *testing.T, k api.GroupKind, n int) api.CosetAction {
	t.Helper()
	a, e := subgroup.Of(api.Group{Kind: k, Level: n})
	if e != api.OK {
		t.Fatal(k, n, e)
	}
	return a
}

// actions returns coset actions of all sorts, with and without -1.
func actions(t *testing.T) []api.CosetAction {
	var abelian api.CosetAction
	for i := range 12 {
		abelian.S = append(abelian.S, (i+9)%12)
		abelian.T = append(abelian.T, (i+1)%12)
	}
	l := []api.CosetAction{abelian, {S: []int{1, 2, 3, 0}, T: []int{1, 2, 3, 0}}, {S: []int{1, 0}, T: []int{1, 0}}}
	for n := 1; n <= api.MaxLevel; n += 1 + n/30 {
		l = append(l, of(t, api.Gamma0, n), of(t, api.GammaUp0, n))
	}
	for n := 1; n <= 20; n++ {
		l = append(l, of(t, api.Gamma1, n))
	}
	for n := 1; n <= 9; n++ {
		l = append(l, of(t, api.GammaFull, n))
	}
	r := rand.New(rand.NewSource(2))
	for n := 1; n <= 60; n++ {
		l = append(l, randomAction(r, n), randomAction(r, n))
	}
	return append(l, randomAction(r, 200), randomAction(r, api.MaxIndex))
}

// point returns the point of the projective action to which a matrix moves point 0.
func point(t *testing.T, p api.CosetAction, m api.Mat2) int {
	t.Helper()
	i, e := permutation.Move(p, 0, m)
	if e != api.OK {
		t.Fatal(m, e)
	}
	return i
}
