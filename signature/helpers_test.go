package signature_test

import (
	"math"
	"math/rand"
	"testing"

	"halfplane/api"
	"halfplane/permutation"
	"halfplane/subgroup"
)

// noLevels are numbers that are no levels.
var noLevels = []int{0, -1, -11, -120, api.MaxLevel + 1, math.MaxInt, math.MinInt}

// malformed are values that are no coset actions, with the error of permutation.Check.
var malformed = []struct {
	a    api.CosetAction
	want api.Errno
}{
	{api.CosetAction{}, api.ErrRange}, {api.CosetAction{S: make([]int, api.MaxIndex+1)}, api.ErrRange}, {api.CosetAction{S: []int{0}}, api.ErrShape}, {api.CosetAction{S: []int{1}, T: []int{0}}, api.ErrForm},
	{api.CosetAction{S: []int{0, 1}, T: []int{0, 1}}, api.ErrForm}, {api.CosetAction{S: []int{0, 1}, T: []int{1, 0}}, api.ErrForm}, {api.CosetAction{S: []int{0}, T: []int{-1}}, api.ErrForm}, {api.CosetAction{S: []int{1, 0}, T: []int{1, 0, 2}}, api.ErrShape},
}

// of returns the coset action of a standard group.
func of(t *testing.T, k api.GroupKind, n int) api.CosetAction {
	t.Helper()
	a, e := subgroup.Of(api.Group{Kind: k, Level: n})
	if e != api.OK {
		t.Fatal(k, n, e)
	}
	return a
}

// random returns an action on n points in which S has the order 2.
func random(r *rand.Rand, n int) api.CosetAction {
	for {
		p, q := r.Perm(n), r.Perm(n)
		s, st := make([]int, n), make([]int, n)
		for i := range n {
			s[i], st[i] = i, i
		}
		for i := r.Intn(min(4, n)); i+1 < n; i += 2 {
			s[p[i]], s[p[i+1]] = p[i+1], p[i]
		}
		for i := r.Intn(min(4, n)); i+2 < n; i += 3 {
			st[q[i]], st[q[i+1]], st[q[i+2]] = q[i+1], q[i+2], q[i]
		}
		a := api.CosetAction{S: s, T: make([]int, n)}
		for i, x := range s {
			a.T[x] = st[i]
		}
		if permutation.Check(a) == api.OK {
			return a
		}
	}
}

// chain returns an action with m cycles of S followed by T of length 3, a chain that is
// linked by S. At its other points S leaves everything unchanged, or, if odd is true, leads
// to a point that S followed by T leaves unchanged.
func chain(m int, odd bool) api.CosetAction {
	var s, st []int
	for i := range 3 * m {
		s = append(s, i)
		st = append(st, i-i%3+(i+1)%3)
	}
	for i := 1; i+2 < 3*m; i += 3 {
		s[i], s[i+2] = i+2, i
	}
	for i := range 3 * m {
		if odd && s[i] == i {
			s[i] = len(s)
			s, st = append(s, i), append(st, len(st))
		}
	}
	a := api.CosetAction{S: s, T: make([]int, len(s))}
	for i, x := range s {
		a.T[x] = st[i]
	}
	return a
}

// samples returns actions of all sorts, with and without -1, congruence subgroups or not.
func samples(t *testing.T) []api.CosetAction {
	var abelian, quarter api.CosetAction // by the abelian classes modulo 12 and 4
	for i := range 12 {
		abelian.S = append(abelian.S, (i+9)%12)
		abelian.T = append(abelian.T, (i+1)%12)
	}
	for i := range 4 {
		quarter.S = append(quarter.S, (i+1)%4)
		quarter.T = append(quarter.T, (i+1)%4)
	}
	l := []api.CosetAction{abelian, quarter, chain(40, false), chain(40, true), {S: []int{0}, T: []int{0}}, {S: []int{1, 0}, T: []int{1, 0}}}
	for n := 1; n <= 12; n++ {
		l = append(l, of(t, api.Gamma0, n), of(t, api.Gamma1, n))
	}
	for n := 2; n <= 6; n++ {
		l = append(l, of(t, api.GammaFull, n))
	}
	r := rand.New(rand.NewSource(1))
	for n := 1; n <= 40; n++ {
		a := random(r, n)
		l = append(l, a)
		for _, b := range []api.CosetAction{quarter, of(t, api.Gamma1, 4), of(t, api.Gamma0, 3)} {
			if both, e := permutation.Intersect(a, b); e == api.OK {
				l = append(l, both)
			}
		}
	}
	return l
}

// gcd is Euclid's algorithm, for comparison.
func gcd(a, b int) int {
	for b != 0 {
		a, b = b, a%b
	}
	return max(a, -a)
}

// phi counts the units modulo n.
func phi(n int) int {
	count := 0
	for a := range n {
		if gcd(a, n) == 1 {
			count++
		}
	}
	return count
}
