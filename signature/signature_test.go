package signature_test

import (
	"math/rand"
	"slices"
	"testing"

	"halfplane/api"
	"halfplane/permutation"
	"halfplane/signature"
)

// count follows the definition of the signature: it counts orbits of points.
func count(a api.CosetAction) api.Signature {
	n := len(a.S)
	minus := func(i int) int { return a.S[a.S[i]] }
	st := func(i int) int { return a.T[a.S[i]] }
	orbits := func(moves ...func(int) int) int {
		number := 0
		seen := make([]bool, n)
		for i := range n {
			if seen[i] {
				continue
			}
			number++
			seen[i] = true
			for points := []int{i}; len(points) > 0; points = points[1:] {
				for _, move := range moves {
					if j := move(points[0]); !seen[j] {
						seen[j] = true
						points = append(points, j)
					}
				}
			}
		}
		return number
	}
	t := func(i int) int { return a.T[i] }
	g := api.Signature{Index: orbits(minus), Cusps: orbits(minus, t), Minus: minus(0) == 0}
	// Orbits under S and under S T, of one class or of two, or three, classes each.
	g.Nu2 = 2*orbits(minus, func(i int) int { return a.S[i] }) - g.Index
	g.Nu3 = (3*orbits(minus, st) - g.Index) / 2
	if !g.Minus {
		// At irregular cusps one orbit of T contains both points of each class.
		g.Irregular = 2*g.Cusps - orbits(t)
	}
	g.Genus = 1 - (orbits(minus, t)+orbits(minus, st)+orbits(minus, func(i int) int { return a.S[i] })-g.Index)/2
	return g
}

func TestOf(t *testing.T) { // P25.1
	irregular, positive := 0, 0
	for k, a := range samples(t) {
		kept := api.CosetAction{S: slices.Clone(a.S), T: slices.Clone(a.T)}
		g, e := signature.Of(a)
		if e != api.OK || g != count(a) {
			t.Fatal(k, g, count(a), e)
		}
		if g.Genus < 0 || 12*g.Genus != 12+g.Index-3*g.Nu2-4*g.Nu3-6*g.Cusps {
			t.Fatal(k, g)
		}
		if x, _ := permutation.Euler(a); x != 2-2*g.Genus {
			t.Fatal(k, g, x)
		}
		if minus, _ := permutation.Minus(a); minus != g.Minus {
			t.Fatal(k, g)
		}
		for i := 0; i < len(a.S); i += 1 + len(a.S)/6 {
			b, _ := permutation.Base(a, i)
			if h, e := signature.Of(b); e != api.OK || h != g {
				t.Fatal(k, i, g, h, e)
			}
		}
		irregular += g.Irregular
		positive += min(g.Genus, 1)
		if !slices.Equal(a.S, kept.S) || !slices.Equal(a.T, kept.T) {
			t.Fatal("the argument was changed")
		}
	}
	if irregular < 10 || positive < 10 {
		t.Error(irregular, positive)
	}
}

func TestKnown(t *testing.T) { // P25.1
	for _, x := range []struct {
		k    api.GroupKind
		n    int
		want api.Signature
	}{
		{api.Gamma0, 1, api.Signature{Index: 1, Nu2: 1, Nu3: 1, Cusps: 1, Minus: true}},
		{api.Gamma0, 11, api.Signature{Index: 12, Genus: 1, Cusps: 2, Minus: true}},
		{api.Gamma0, 13, api.Signature{Index: 14, Nu2: 2, Nu3: 2, Cusps: 2, Minus: true}},
		{api.Gamma0, 37, api.Signature{Index: 38, Genus: 2, Nu2: 2, Nu3: 2, Cusps: 2, Minus: true}},
		{api.GammaUp0, 11, api.Signature{Index: 12, Genus: 1, Cusps: 2, Minus: true}},
		{api.Gamma1, 4, api.Signature{Index: 6, Cusps: 3, Irregular: 1}},
		{api.Gamma1, 13, api.Signature{Index: 84, Genus: 2, Cusps: 12}},
		{api.GammaFull, 2, api.Signature{Index: 6, Cusps: 3, Minus: true}},
		{api.GammaFull, 7, api.Signature{Index: 168, Genus: 3, Cusps: 24}},
		{api.GammaFull, 12, api.Signature{Index: 576, Genus: 25, Cusps: 48}},
	} {
		if g, e := signature.Of(of(t, x.k, x.n)); e != api.OK || g != x.want {
			t.Error(x, g, e)
		}
	}
	// The commutators: a torus with one cusp, which is irregular.
	if g, e := signature.Of(samples(t)[0]); e != api.OK || g != (api.Signature{Index: 6, Genus: 1, Cusps: 1, Irregular: 1}) {
		t.Error(g, e)
	}
	for odd, want := range map[bool]api.Signature{false: {Index: 120, Nu2: 42, Cusps: 1, Minus: true}, true: {Index: 162, Nu3: 42, Cusps: 1, Minus: true}} {
		if g, e := signature.Of(chain(40, odd)); e != api.OK || g != want {
			t.Error(odd, g, e)
		}
	}
	// The subgroup of index 2.
	if g, e := signature.Of(api.CosetAction{S: []int{1, 0}, T: []int{1, 0}}); e != api.OK || g != (api.Signature{Index: 2, Nu3: 2, Cusps: 1, Minus: true}) {
		t.Error(g, e)
	}
}

func TestOfErrors(t *testing.T) { // P25.1
	for _, x := range malformed {
		if g, e := signature.Of(x.a); e != x.want || g != (api.Signature{}) {
			t.Error(x, g, e)
		}
	}
}

func TestSubgroups(t *testing.T) { // P25.1
	r := rand.New(rand.NewSource(2))
	l := samples(t)
	pairs := 0
	for range 300 {
		a, b := l[r.Intn(len(l))], l[r.Intn(len(l))]
		both, e := permutation.Intersect(a, b)
		if e != api.OK {
			continue
		}
		pairs++
		g, _ := signature.Of(both)
		for _, x := range []api.CosetAction{a, b} {
			if h, _ := signature.Of(x); g.Index%h.Index != 0 || g.Genus < h.Genus {
				t.Fatal(g, h)
			}
		}
	}
	if pairs < 50 {
		t.Error(pairs)
	}
}

func TestFormula0(t *testing.T) { // P25.2
	for n := 1; n <= api.MaxLevel; n++ {
		want, _ := signature.Of(of(t, api.Gamma0, n))
		g, e := signature.Formula0(n)
		if e != api.OK || g != want || !g.Minus || g.Irregular != 0 {
			t.Error(n, g, want, e)
		}
		if genus, e := signature.Genus0(n); e != api.OK || genus != want.Genus {
			t.Error(n, genus, e)
		}
		var roots2, roots3, cusps int
		for x := range n {
			if (x*x+1)%n == 0 {
				roots2++
			}
			if (x*x+x+1)%n == 0 {
				roots3++
			}
		}
		if nu2, nu3, e := signature.Elliptic0(n); e != api.OK || nu2 != roots2 || nu3 != roots3 || nu2 != want.Nu2 || nu3 != want.Nu3 {
			t.Error(n, nu2, nu3, roots2, roots3, e)
		}
		for d := 1; d <= n; d++ {
			if n%d == 0 {
				cusps += phi(gcd(d, n/d))
			}
		}
		if g.Cusps != cusps {
			t.Error(n, g, cusps)
		}
	}
	for n, want := range map[int][3]int{1: {1, 1, 0}, 2: {1, 0, 0}, 3: {0, 1, 0}, 4: {0, 0, 0}, 5: {2, 0, 0}, 9: {0, 0, 0}, 10: {2, 0, 0}, 11: {0, 0, 1}, 13: {2, 2, 0}, 21: {0, 2, 1}, 65: {4, 0, 5}, 91: {0, 4, 7}, 120: {0, 0, 17}} {
		nu2, nu3, e := signature.Elliptic0(n)
		genus, f := signature.Genus0(n)
		if e != api.OK || f != api.OK || [3]int{nu2, nu3, genus} != want {
			t.Error(n, nu2, nu3, genus, e, f)
		}
	}
}

func TestFormula1(t *testing.T) { // P25.2
	compared := 0
	for n := 1; n <= api.MaxLevel; n++ {
		g, e := signature.Formula1(n)
		if e != api.OK || g.Genus < 0 || 12*g.Genus != 12+g.Index-3*g.Nu2-4*g.Nu3-6*g.Cusps || g.Minus != (n <= 2) {
			t.Error(n, g, e)
		}
		// The pairs of units of d and of n/d, and the pairs (c, d) modulo n, up to signs.
		cusps, points := 0, 0
		for d := 1; d <= n; d++ {
			if n%d == 0 {
				cusps += phi(d) * phi(n/d)
			}
			for c := range n {
				if gcd(gcd(c, d), n) == 1 {
					points++
				}
			}
		}
		if n >= 3 && g.Index != points/2 || n >= 5 && g.Cusps != cusps/2 {
			t.Error(n, g, points, cusps)
		}
		if points > api.MaxIndex {
			continue
		}
		compared++
		if want, _ := signature.Of(of(t, api.Gamma1, n)); g != want {
			t.Error(n, g, want)
		}
	}
	if compared < 34 {
		t.Error(compared)
	}
	for n, want := range map[int]api.Signature{
		1: {Index: 1, Nu2: 1, Nu3: 1, Cusps: 1, Minus: true}, 2: {Index: 3, Nu2: 1, Cusps: 2, Minus: true}, 3: {Index: 4, Nu3: 1, Cusps: 2}, 4: {Index: 6, Cusps: 3, Irregular: 1}, 5: {Index: 12, Cusps: 4},
		13: {Index: 84, Genus: 2, Cusps: 12}, 25: {Index: 300, Genus: 12, Cusps: 28}, 37: {Index: 684, Genus: 40, Cusps: 36},
	} {
		if g, e := signature.Formula1(n); e != api.OK || g != want {
			t.Error(n, g, e)
		}
	}
}

func TestLevels(t *testing.T) { // P25.2
	for _, n := range noLevels {
		if nu2, nu3, e := signature.Elliptic0(n); e != api.ErrRange || nu2 != 0 || nu3 != 0 {
			t.Error(n, nu2, nu3, e)
		}
		if genus, e := signature.Genus0(n); e != api.ErrRange || genus != 0 {
			t.Error(n, genus, e)
		}
		if g, e := signature.Formula0(n); e != api.ErrRange || g != (api.Signature{}) {
			t.Error(n, g, e)
		}
		if g, e := signature.Formula1(n); e != api.ErrRange || g != (api.Signature{}) {
			t.Error(n, g, e)
		}
	}
}
