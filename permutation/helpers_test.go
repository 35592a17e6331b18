package permutation_test

import (
	"math/rand"
	"slices"
	"testing"

	"halfplane/api"
	"halfplane/permutation"
)

var (
	unit  = api.Mat2{A: 1, D: 1}
	minus = api.Mat2{A: -1, D: -1}
	s     = api.Mat2{B: -1, C: 1}
	t1    = api.Mat2{A: 1, B: 1, D: 1}

	whole = api.CosetAction{S: []int{0}, T: []int{0}}
	two   = api.CosetAction{S: []int{1, 0, 2}, T: []int{0, 2, 1}} // Gamma0(2)
	half  = api.CosetAction{S: []int{1, 0}, T: []int{1, 0}}       // the subgroup of index 2
)

// times is the product of two matrices.
func times(x, y api.Mat2) api.Mat2 {
	return api.Mat2{A: x.A*y.A + x.B*y.C, B: x.A*y.B + x.B*y.D, C: x.C*y.A + x.D*y.C, D: x.C*y.B + x.D*y.D}
}

func inverse(m api.Mat2) api.Mat2 {
	return api.Mat2{A: m.D, B: -m.B, C: -m.C, D: m.A}
}

// gcd is Euclid's algorithm, for comparison.
func gcd(a, b int) int {
	for b != 0 {
		a, b = b, a%b
	}
	return max(a, -a)
}

func mod(a, n int) int {
	return (a%n + n) % n
}

// same reports whether two actions are equal.
func same(a, b api.CosetAction) bool {
	return slices.Equal(a.S, b.S) && slices.Equal(a.T, b.T)
}

func isNone(a api.CosetAction) bool {
	return len(a.S)+len(a.T) == 0
}

// clone returns a copy that shares no memory.
func clone(a api.CosetAction) api.CosetAction {
	return api.CosetAction{S: slices.Clone(a.S), T: slices.Clone(a.T)}
}

// lower returns the action on the pairs (c, d) modulo n with gcd(c, d, n) = 1, in
// lexicographic order; its group is Gamma1(n).
func lower(n int) api.CosetAction {
	var pairs [][2]int
	for c := range n {
		for d := range n {
			if gcd(gcd(c, d), n) == 1 {
				pairs = append(pairs, [2]int{c, d})
			}
		}
	}
	var a api.CosetAction
	for _, p := range pairs {
		a.S = append(a.S, slices.Index(pairs, [2]int{p[1], mod(-p[0], n)}))
		a.T = append(a.T, slices.Index(pairs, [2]int{p[0], mod(p[0]+p[1], n)}))
	}
	return a
}

// lines returns the action on the classes of these pairs up to units; its group is
// Gamma0(n).
func lines(n int) api.CosetAction {
	var least [][2]int
	class := map[[2]int]int{}
	for c := range n {
		for d := range n {
			if _, known := class[[2]int{c, d}]; known || gcd(gcd(c, d), n) != 1 {
				continue
			}
			for t := 1; t <= n; t++ {
				if gcd(t, n) == 1 {
					class[[2]int{t * c % n, t * d % n}] = len(least)
				}
			}
			least = append(least, [2]int{c, d})
		}
	}
	var a api.CosetAction
	for _, p := range least {
		a.S = append(a.S, class[[2]int{p[1], mod(-p[0], n)}])
		a.T = append(a.T, class[[2]int{p[0], mod(p[0]+p[1], n)}])
	}
	return a
}

// cyclic returns the action of the abelian classes modulo n, a divisor of 12.
func cyclic(n int) api.CosetAction {
	var a api.CosetAction
	for i := range n {
		a.S = append(a.S, (i+9)%n)
		a.T = append(a.T, (i+1)%n)
	}
	return a
}

// build returns the action in which S is an involution and S followed by T is r.
func build(s, r []int) api.CosetAction {
	a := api.CosetAction{S: s, T: make([]int, len(s))}
	for i, x := range s {
		a.T[x] = r[i]
	}
	return a
}

// random returns an action on n points in which S has the order 2.
func random(r *rand.Rand, n int) api.CosetAction {
	for {
		p, q := r.Perm(n), r.Perm(n)
		s, st := make([]int, n), make([]int, n)
		for i := range n {
			s[i], st[i] = i, i
		}
		// Unless n is small, few points are left unchanged.
		for i := r.Intn(min(3, n)); i+1 < n; i += 2 {
			s[p[i]], s[p[i+1]] = p[i+1], p[i]
		}
		for i := r.Intn(min(3, n)); i+2 < n; i += 3 {
			st[q[i]], st[q[i+1]], st[q[i+2]] = q[i+1], q[i+2], q[i]
		}
		if a := build(s, st); permutation.Check(a) == api.OK {
			return a
		}
	}
}

// petals returns an action with a cycle of T of length 2 k + 1 for each k of the list: a
// planar graph with a spine to which loops with k spikes inside are tied.
func petals(l []int) api.CosetAction {
	var s, r []int
	vertex := func() int { // three new darts, in their order around the vertex
		i := len(s)
		s = append(s, i, i+1, i+2)
		r = append(r, i+1, i+2, i)
		return i
	}
	join := func(i, j int) { s[i], s[j] = j, i }
	end := -1
	for _, k := range l {
		spine := vertex()
		if end >= 0 {
			join(end, spine)
		}
		end = spine + 1
		foot := vertex()
		join(spine+2, foot)
		last := foot + 1
		for range k {
			v := vertex()
			join(last, v)
			last = v + 1 // v + 2 is a spike
		}
		join(last, foot+2)
	}
	return build(s, r)
}

// samples returns actions of all sorts.
func samples() []api.CosetAction {
	l := []api.CosetAction{whole, two, half, cyclic(3), cyclic(4), cyclic(6), cyclic(12), petals([]int{1, 2}), petals([]int{1, 2, 3, 5})}
	for n := 1; n <= 8; n++ {
		l = append(l, lower(n), lines(n))
	}
	l = append(l, lines(11), lines(12), lines(13), lines(24), lines(25), lower(9), lower(10))
	r := rand.New(rand.NewSource(1))
	for n := 1; n <= 20; n++ {
		l = append(l, random(r, n), random(r, n))
	}
	l = append(l, random(r, 60))
	for _, a := range l[len(l)-20:] {
		// Some groups without -1 that contain no Gamma(n).
		if both, e := permutation.Intersect(a, cyclic(4)); e == api.OK {
			l = append(l, both)
		}
	}
	return l
}

// word returns a product of n letters S, T and T^-1 and the point to which it moves i.
func word(r *rand.Rand, a api.CosetAction, i, n int) (api.Mat2, int) {
	m := unit
	for range n {
		switch r.Intn(4) {
		case 0, 1:
			m, i = times(m, s), a.S[i]
		case 2:
			m, i = times(m, t1), a.T[i]
		default:
			m, i = times(m, inverse(t1)), slices.Index(a.T, i)
		}
	}
	return m, i
}

// contains is permutation.Contains, which must not fail.
func contains(t *testing.T, a api.CosetAction, m api.Mat2) bool {
	t.Helper()
	in, e := permutation.Contains(a, m)
	if e != api.OK {
		t.Fatal(a, m, e)
	}
	return in
}

// moved is permutation.Move, which must not fail.
func moved(t *testing.T, a api.CosetAction, i int, m api.Mat2) int {
	t.Helper()
	j, e := permutation.Move(a, i, m)
	if e != api.OK {
		t.Fatal(a, i, m, e)
	}
	return j
}
