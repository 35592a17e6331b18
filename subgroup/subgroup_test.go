package subgroup_test

import (
	"math"
	"math/rand"
	"slices"
	"testing"

	"halfplane/api"
	"halfplane/permutation"
	"halfplane/sl2"
	"halfplane/subgroup"
)

const top = api.MaxEntry

var (
	unit = api.Mat2{A: 1, D: 1}
	s    = api.Mat2{B: -1, C: 1}
	t1   = api.Mat2{A: 1, B: 1, D: 1}

	kinds = []api.GroupKind{api.Gamma0, api.Gamma1, api.GammaFull, api.GammaUp0}
)

func times(x, y api.Mat2) api.Mat2 {
	return api.Mat2{A: x.A*y.A + x.B*y.C, B: x.A*y.B + x.B*y.D, C: x.C*y.A + x.D*y.C, D: x.C*y.B + x.D*y.D}
}

func inverse(m api.Mat2) api.Mat2 {
	return api.Mat2{A: m.D, B: -m.B, C: -m.C, D: m.A}
}

func mod(a, n int) int {
	return (a%n + n) % n
}

// belongs follows the definition of the groups.
func belongs(g api.Group, m api.Mat2) bool {
	n := g.Level
	a, b, c, d := mod(m.A, n), mod(m.B, n), mod(m.C, n), mod(m.D, n)
	one := 1 % n
	switch g.Kind {
	case api.Gamma0:
		return c == 0
	case api.Gamma1:
		return c == 0 && a == one && d == one
	case api.GammaFull:
		return a == one && b == 0 && c == 0 && d == one
	}
	return b == 0
}

// groups returns all groups.
func groups() []api.Group {
	var l []api.Group
	for n := 1; n <= api.MaxLevel; n++ {
		for _, k := range kinds {
			l = append(l, api.Group{Kind: k, Level: n})
		}
	}
	return l
}

// random returns a matrix of SL2(Z): a product of powers of T and of its transpose, many
// of which are powers of the n-th powers.
func random(r *rand.Rand, n int) api.Mat2 {
	m := unit
	if r.Intn(3) == 0 {
		m = api.Mat2{A: -1, D: -1}
	}
	for range r.Intn(4) {
		b, c := r.Intn(7)-3, r.Intn(7)-3
		if r.Intn(3) > 0 {
			b *= n
		}
		if r.Intn(3) > 0 {
			c *= n
		}
		next := times(times(m, api.Mat2{A: 1, B: b, D: 1}), api.Mat2{A: 1, C: c, D: 1})
		if sl2.Check(next) != api.OK {
			break
		}
		m = next
	}
	return m
}

// wrong are values that are no groups, with the error of Check.
var wrong = map[api.Group]api.Errno{
	{}: api.ErrKind, {Kind: 0, Level: 5}: api.ErrKind, {Kind: 5, Level: 5}: api.ErrKind, {Kind: -1, Level: 0}: api.ErrKind, {Kind: 7, Level: 121}: api.ErrKind, {Kind: math.MaxInt, Level: 1}: api.ErrKind, {Kind: math.MinInt, Level: -1}: api.ErrKind,
	{Kind: api.Gamma0, Level: 0}: api.ErrRange, {Kind: api.Gamma1, Level: -1}: api.ErrRange, {Kind: api.GammaFull, Level: 121}: api.ErrRange, {Kind: api.GammaUp0, Level: math.MaxInt}: api.ErrRange, {Kind: api.Gamma0, Level: math.MinInt}: api.ErrRange,
}

func TestCheck(t *testing.T) { // P23.1
	for _, g := range groups() {
		if e := subgroup.Check(g); e != api.OK {
			t.Error(g, e)
		}
	}
	for g, want := range wrong {
		if e := subgroup.Check(g); e != want {
			t.Error("Check", g, e)
		}
		for _, m := range []api.Mat2{unit, {}, {A: top + 1}} {
			if in, e := subgroup.Has(g, m); e != want || in {
				t.Error("Has", g, in, e)
			}
		}
		if n, e := subgroup.Index(g); e != want || n != 0 {
			t.Error("Index", g, n, e)
		}
		if a, e := subgroup.Of(g); e != want || len(a.S)+len(a.T) != 0 {
			t.Error("Of", g, a, e)
		}
		if l, e := subgroup.Representatives(g); e != want || len(l) != 0 {
			t.Error("Representatives", g, l, e)
		}
	}
}

func TestHas(t *testing.T) { // P23.1
	r := rand.New(rand.NewSource(1))
	members := 0
	for _, g := range groups() {
		var inside []api.Mat2
		for range 60 {
			m := random(r, g.Level)
			in, e := subgroup.Has(g, m)
			if e != api.OK || in != belongs(g, m) {
				t.Fatal(g, m, in, e)
			}
			if in {
				inside = append(inside, m)
			}
		}
		for _, x := range inside {
			if in, e := subgroup.Has(g, inverse(x)); e != api.OK || !in {
				t.Fatal(g, x, in, e)
			}
			for _, y := range inside {
				xy := times(x, y)
				if in, e := subgroup.Has(g, xy); sl2.Check(xy) == api.OK && (e != api.OK || !in) {
					t.Fatal(g, x, y, in, e)
				}
			}
		}
		members += len(inside)
	}
	if members < 5000 {
		t.Error(members)
	}
	for _, c := range []struct {
		g    api.Group
		m    api.Mat2
		want bool
	}{
		{api.Group{Kind: api.Gamma0, Level: 5}, api.Mat2{A: -1, D: -1}, true}, {api.Group{Kind: api.Gamma1, Level: 5}, api.Mat2{A: -1, D: -1}, false}, {api.Group{Kind: api.Gamma1, Level: 2}, api.Mat2{A: -1, D: -1}, true},
		{api.Group{Kind: api.Gamma1, Level: 5}, t1, true}, {api.Group{Kind: api.GammaFull, Level: 5}, t1, false}, {api.Group{Kind: api.GammaUp0, Level: 5}, t1, false}, {api.Group{Kind: api.GammaUp0, Level: 5}, api.Mat2{A: 1, B: -top, C: 0, D: 1}, false},
		{api.Group{Kind: api.GammaUp0, Level: 64}, api.Mat2{A: 1, B: -top, C: 0, D: 1}, true}, {api.Group{Kind: api.Gamma0, Level: 5}, api.Mat2{A: 2, B: 1, C: -5, D: -2}, true}, {api.Group{Kind: api.GammaUp0, Level: 5}, api.Mat2{A: 2, B: -5, C: 1, D: -2}, true},
		{api.Group{Kind: api.GammaFull, Level: 1}, s, true}, {api.Group{Kind: api.Gamma1, Level: 1}, s, true}, {api.Group{Kind: api.Gamma0, Level: 2}, s, false}, {api.Group{Kind: api.GammaFull, Level: 5}, api.Mat2{A: -4, B: 5, C: -5, D: 6}, true},
	} {
		if in, e := subgroup.Has(c.g, c.m); e != api.OK || in != c.want {
			t.Error(c, in, e)
		}
	}
	for m, want := range map[api.Mat2]api.Errno{{}: api.ErrMember, {A: 1, D: -1}: api.ErrMember, {A: 5, D: 5}: api.ErrMember, {A: top + 1, D: 1}: api.ErrRange, {A: 1, B: math.MinInt, D: 1}: api.ErrRange, {A: 1, C: math.MaxInt, D: 1}: api.ErrRange, {A: 1, D: -top - 1}: api.ErrRange} {
		for _, k := range kinds {
			if in, e := subgroup.Has(api.Group{Kind: k, Level: 5}, m); e != want || in {
				t.Error(k, m, in, e)
			}
		}
	}
}

// indices follows the formulas: n times all 1 + 1/p, and n^2 times all 1 - 1/p^2.
func indices(n int) (psi, squares int) {
	psi, squares = n, n*n
	for p, rest := 2, n; rest > 1; p++ {
		if rest%p == 0 {
			psi += psi / p
			squares -= squares / (p * p)
		}
		for rest%p == 0 {
			rest /= p
		}
	}
	return psi, squares
}

func TestIndex(t *testing.T) { // P23.2
	for n := 1; n <= api.MaxLevel; n++ {
		psi, squares := indices(n)
		for i, want := range []int{psi, squares, n * squares, psi} {
			g := api.Group{Kind: kinds[i], Level: n}
			index, e := subgroup.Index(g)
			if e != api.OK || index != want {
				t.Error(g, index, want, e)
			}
			if a, e := subgroup.Of(g); e == api.OK && len(a.S) != index {
				t.Error(g, index, len(a.S))
			}
		}
	}
	for g, want := range map[api.Group]int{{Kind: api.Gamma1, Level: 4}: 12, {Kind: api.GammaFull, Level: 3}: 24, {Kind: api.GammaFull, Level: 1}: 1, {Kind: api.GammaFull, Level: 12}: 1152, {Kind: api.GammaUp0, Level: 11}: 12} {
		if index, e := subgroup.Index(g); e != api.OK || index != want {
			t.Error(g, index, e)
		}
	}
}

// check compares the coset action and the representatives of a group with the definition.
func check(t *testing.T, g api.Group, a api.CosetAction, l []api.Mat2) {
	t.Helper()
	if permutation.Check(a) != api.OK || len(l) != len(a.S) || l[0] != unit {
		t.Fatal(g, a, l)
	}
	if b, _ := permutation.Base(a, 0); !slices.Equal(a.S, b.S) || !slices.Equal(a.T, b.T) {
		t.Fatal(g, "has another numbering")
	}
	reached := 1
	for i, m := range l {
		for _, x := range []struct {
			g  api.Mat2
			to int
		}{{s, a.S[i]}, {t1, a.T[i]}} {
			// The coset of m x is that of the representative of the point.
			if !belongs(g, times(times(m, x.g), inverse(l[x.to]))) {
				t.Fatal(g, i, x)
			}
			if x.to >= reached {
				if x.to != reached || l[x.to] != times(m, x.g) {
					t.Fatal(g, i, x, l[x.to])
				}
				reached++
			}
		}
		if j, e := permutation.Move(a, 0, m); e != api.OK || j != i {
			t.Fatal(g, m, i, j, e)
		}
	}
}

func TestOf(t *testing.T) { // P23.3, P23.4
	r := rand.New(rand.NewSource(2))
	built := 0
	for _, g := range groups() {
		index, _ := subgroup.Index(g)
		a, e := subgroup.Of(g)
		l, f := subgroup.Representatives(g)
		if index > api.MaxIndex {
			if e != api.ErrLarge || len(a.S)+len(a.T) != 0 || f != api.ErrLarge || len(l) != 0 {
				t.Fatal(g, e, f)
			}
			continue
		}
		built++
		if e != api.OK || f != api.OK || len(a.S) != index {
			t.Fatal(g, len(a.S), e, f)
		}
		check(t, g, a, l)
		for range 20 {
			m := random(r, g.Level)
			if in, e := permutation.Contains(a, m); e != api.OK || in != belongs(g, m) {
				t.Fatal(g, m, in, e)
			}
		}
	}
	if built < 2*api.MaxLevel+40 {
		t.Error(built)
	}
	g := api.Group{Kind: api.Gamma0, Level: 2}
	if a, e := subgroup.Of(g); e != api.OK || !slices.Equal(a.S, []int{1, 0, 2}) || !slices.Equal(a.T, []int{0, 2, 1}) {
		t.Error(a, e)
	}
	if l, e := subgroup.Representatives(g); e != api.OK || !slices.Equal(l, []api.Mat2{unit, s, {B: -1, C: 1, D: 1}}) {
		t.Error(l, e)
	}
	for _, k := range kinds {
		if a, e := subgroup.Of(api.Group{Kind: k, Level: 1}); e != api.OK || !slices.Equal(a.S, []int{0}) || !slices.Equal(a.T, []int{0}) {
			t.Error(k, a, e)
		}
	}
	// Gamma(12) and Gamma1(34), whose index is 864, are small enough; Gamma(13) and
	// Gamma1(37) are not.
	for g, want := range map[api.Group]api.Errno{{Kind: api.GammaFull, Level: 12}: api.OK, {Kind: api.GammaFull, Level: 13}: api.ErrLarge, {Kind: api.Gamma1, Level: 34}: api.OK, {Kind: api.Gamma1, Level: 37}: api.ErrLarge, {Kind: api.Gamma1, Level: 120}: api.ErrLarge} {
		if _, e := subgroup.Of(g); e != want {
			t.Error(g, e)
		}
		if _, e := subgroup.Representatives(g); e != want {
			t.Error(g, e)
		}
	}
}

func TestWithin(t *testing.T) { // P23.3
	for n := 1; n <= 10; n++ {
		var a [4]api.CosetAction
		for i, k := range kinds {
			a[i], _ = subgroup.Of(api.Group{Kind: k, Level: n})
		}
		// Gamma0 contains Gamma1, which contains Gamma.
		for i, within := range [][]bool{{true, n <= 2, n <= 1, n <= 1}, {true, true, n <= 1, n <= 1}, {true, true, true, true}, {n <= 1, n <= 1, n <= 1, true}} {
			for j, want := range within {
				if in, e := permutation.Within(a[i], a[j]); e != api.OK || in != want {
					t.Error(n, kinds[i], kinds[j], in, e)
				}
			}
		}
		// Gamma^0 consists of the conjugates S^-1 g S of the matrices of Gamma0.
		if b, _ := permutation.Base(a[0], a[0].S[0]); !slices.Equal(b.S, a[3].S) || !slices.Equal(b.T, a[3].T) {
			t.Error(n, "is not conjugate")
		}
	}
}

// Nothing of a result is used again by a later call, nor by another part of the result.
func TestMemory(t *testing.T) { // R3
	g := api.Group{Kind: api.Gamma0, Level: 6}
	a, _ := subgroup.Of(g)
	keptS, keptT := slices.Clone(a.S), slices.Clone(a.T)
	spoil(a.S[:cap(a.S)], -7)
	if !slices.Equal(a.T, keptT) {
		t.Error("S and T share memory")
	}
	spoil(a.T[:cap(a.T)], -7)
	if again, _ := subgroup.Of(g); !slices.Equal(again.S, keptS) || !slices.Equal(again.T, keptT) {
		t.Error(again)
	}
	l, _ := subgroup.Representatives(g)
	kept := slices.Clone(l)
	spoil(l[:cap(l)], api.Mat2{})
	if again, _ := subgroup.Representatives(g); !slices.Equal(again, kept) {
		t.Error(again)
	}
}

// spoil overwrites the whole memory of a list.
func spoil[E any](l []E, x E) {
	for i := range l {
		l[i] = x
	}
}
