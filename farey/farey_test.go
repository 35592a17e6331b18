package farey_test

import (
	"math"
	"math/rand"
	"slices"
	"testing"

	"halfplane/api"
	"halfplane/farey"
	"halfplane/permutation"
	"halfplane/signature"
)

func cusps(numbers ...int) []api.Cusp {
	var l []api.Cusp
	for i := 0; i < len(numbers); i += 2 {
		l = append(l, api.Cusp{P: numbers[i], Q: numbers[i+1]})
	}
	return l
}

// malformed returns values that are no symbols, with the error of Check.
func malformed() map[api.Errno][]api.FareySymbol {
	const even, odd = api.Even, api.Odd
	long := integers(api.MaxIndex)
	worse := shift(long, top)
	return map[api.Errno][]api.FareySymbol{
		api.ErrShape: {{}, {Labels: []int{odd}}, {Labels: []int{odd, odd}}, {Vertices: cusps(0, 1)}, {Vertices: cusps(0, 1), Labels: []int{odd}}, {Vertices: cusps(0, 1), Labels: []int{odd, odd, odd}}, {Vertices: cusps(0, 0), Labels: []int{7}}, {Vertices: long.Vertices, Labels: long.Labels[1:]}},
		api.ErrRange: {
			long, worse, {Vertices: slices.Repeat(cusps(2, 2), 2000), Labels: make([]int, 2001)}, {Vertices: cusps(top+1, 1), Labels: []int{odd, odd}}, {Vertices: cusps(0, 1, 1, -1), Labels: []int{even, even, even}}, {Vertices: cusps(0, 1, math.MinInt, math.MaxInt), Labels: []int{9, 9, 9}},
			{Vertices: cusps(0, 1, 1, top+1, 2, 2), Labels: []int{even, even, even, even}},
		},
		api.ErrForm: {
			{Vertices: cusps(2, 2, 0, -1), Labels: []int{even, even, even}}, {Vertices: cusps(0, 2), Labels: []int{odd, odd}}, {Vertices: cusps(-1, 0), Labels: []int{odd, odd}}, // no cusps
			{Vertices: cusps(1, 0), Labels: []int{odd, odd}}, {Vertices: cusps(0, 1, 1, 0), Labels: []int{even, even, even}}, {Vertices: cusps(1, 0, 0, 1), Labels: []int{even, even, even}}, {Vertices: cusps(0, 1, 1, 0, 1, 1), Labels: []int{even, even, even, even}}, {Vertices: cusps(-1, 1, 1, 0, 1, 1), Labels: []int{even, even, even, even}},
			{Vertices: cusps(1, 2), Labels: []int{odd, odd}}, {Vertices: cusps(1, 2, 1, 1), Labels: []int{even, even, even}}, {Vertices: cusps(0, 1, 1, 2), Labels: []int{even, even, even}},
			{Vertices: cusps(1, 1, 0, 1), Labels: []int{even, even, even}}, {Vertices: cusps(0, 1, 0, 1), Labels: []int{even, even, even}}, {Vertices: cusps(0, 1, 2, 1), Labels: []int{even, even, even}}, {Vertices: cusps(0, 1, 1, 3, 1, 1), Labels: []int{even, even, even, even}}, {Vertices: cusps(0, 1, 2, 3, 1, 1), Labels: []int{even, even, even, even}},
			{Vertices: cusps(0, 1), Labels: []int{even, even}}, {Vertices: cusps(0, 1), Labels: []int{1, 1}}, {Vertices: cusps(0, 1), Labels: []int{odd, 1}}, {Vertices: cusps(0, 1), Labels: []int{0, odd}}, {Vertices: cusps(0, 1), Labels: []int{odd, -1}},
			{Vertices: cusps(0, 1, 1, 1), Labels: []int{even, even, 0}}, {Vertices: cusps(0, 1, 1, 1), Labels: []int{1, even, 2}}, {Vertices: cusps(0, 1, 1, 1), Labels: []int{2, even, 2}}, {Vertices: cusps(0, 1, 1, 1), Labels: []int{1, 1, 1}}, {Vertices: cusps(0, 1, 1, 1), Labels: []int{1, even, even}}, {Vertices: cusps(0, 1, 1, 1), Labels: []int{even, -4, even}}, {Vertices: cusps(0, 1, 1, 1), Labels: []int{even, -1, even}}, {Vertices: cusps(0, 1, 1, 1), Labels: []int{even, math.MinInt, math.MaxInt}},
			{Vertices: cusps(0, 1, 1, 1, 2, 1), Labels: []int{2, 1, 1, 2}}, {Vertices: cusps(0, 1, 1, 1, 2, 1), Labels: []int{1, 1, 3, 3}}, {Vertices: cusps(0, 1, 1, 1, 2, 1), Labels: []int{1, 1, 1, 1}}, {Vertices: cusps(0, 1, 1, 1, 2, 1), Labels: []int{1, 2, 1, 1}},
		},
	}
}

func TestCheck(t *testing.T) { // P26.1
	for i, f := range symbols() {
		if e := farey.Check(f); e != api.OK {
			t.Error(i, f, e)
		}
	}
	for _, f := range []api.FareySymbol{
		integers(api.MaxIndex - 1), shift(whole, top), shift(half, -top), shift(two, top-1), shift(two, -top), {Vertices: cusps(0, 1, 1, 2, 1, 1), Labels: []int{1, 2, 1, 2}}, {Vertices: cusps(0, 1, 1, 2, 1, 1), Labels: []int{1, 1, 2, 2}}, {Vertices: cusps(0, 1, 1, 2, 1, 1), Labels: []int{1, 2, 2, 1}},
		{Vertices: cusps(0, 1), Labels: []int{api.Odd, api.Even}}, {Vertices: cusps(0, 1, 1, 1), Labels: []int{api.Even, api.Even, api.Even}},
	} {
		if e := farey.Check(f); e != api.OK {
			t.Error(f, e)
		}
	}
	for want, l := range malformed() {
		for i, f := range l {
			if e := farey.Check(f); e != want {
				t.Error("Check", want, i, e)
			}
			if n, e := farey.Index(f); e != want || n != 0 {
				t.Error("Index", want, i, n, e)
			}
			if l, e := farey.Sides(f); e != want || len(l) != 0 {
				t.Error("Sides", want, i, l, e)
			}
			if l, e := farey.Generators(f); e != want || len(l) != 0 {
				t.Error("Generators", want, i, l, e)
			}
			if a, e := farey.Action(f); e != want || !isNoAction(a) {
				t.Error("Action", want, i, a, e)
			}
			for _, m := range []api.Mat2{unit, {}, {A: top + 1}, {A: 1, B: 5000, D: 1}} {
				if l, in, e := farey.Reduce(f, m); e != want || in || len(l) != 0 {
					t.Error("Reduce", want, i, l, in, e)
				}
			}
			for _, l := range [][]api.FareyLetter{nil, {{Side: -1}}, make([]api.FareyLetter, 4001)} {
				if m, e := farey.Multiply(f, l); e != want || m != (api.Mat2{}) {
					t.Error("Multiply", want, i, m, e)
				}
			}
		}
	}
}

// sides follows the definition of the matrices of the sides.
func sides(f api.FareySymbol) []api.Mat2 {
	var l []api.Mat2
	for i := range f.Labels {
		m := api.Mat2{A: 1, B: -1, C: 0, D: 0}
		if i > 0 {
			m.B, m.D = f.Vertices[i-1].P, f.Vertices[i-1].Q
		}
		if i < len(f.Vertices) {
			m.A, m.C = f.Vertices[i].P, f.Vertices[i].Q
		}
		l = append(l, m)
	}
	return l
}

// generators follows the definition of the generators: for each side its own one, and for
// second sides of pairs nil.
func generators(f api.FareySymbol) []*api.Mat2 {
	l := sides(f)
	all := make([]*api.Mat2, len(l))
	for i, label := range f.Labels {
		first := slices.Index(f.Labels, label)
		var m api.Mat2
		switch {
		case label == api.Even:
			m = times(times(l[i], s), inverse(l[i]))
		case label == api.Odd:
			m = times(times(l[i], r3), inverse(l[i]))
		case first < i:
			m = times(times(l[i], s), inverse(l[first]))
			all[first] = &m
			continue
		default:
			continue
		}
		all[i] = &m
	}
	return all
}

// checkGenerators compares the generators of a symbol with the definition, and returns the
// expected error.
func checkGenerators(t *testing.T, f api.FareySymbol) api.Errno {
	t.Helper()
	l, e := farey.Generators(f)
	large := false
	var want []api.Mat2
	for j, m := range generators(f) {
		if m == nil {
			continue
		}
		want = append(want, *m)
		large = large || !isEntries(*m)
		square := times(*m, *m)
		if f.Labels[j] == api.Even && square != minus || f.Labels[j] == api.Odd && !alike(times(square, *m), unit) {
			t.Fatal(f, j, *m)
		}
	}
	if large {
		if e != api.ErrLarge || len(l) != 0 {
			t.Fatal(f, l, e)
		}
		return e
	}
	if e != api.OK || !slices.Equal(l, want) {
		t.Fatal(f, l, want, e)
	}
	return e
}

func TestGenerators(t *testing.T) { // P26.1
	for i, f := range symbols() {
		kept := clone(f)
		odd := 0
		for _, label := range f.Labels {
			if label == api.Odd {
				odd++
			}
		}
		n, e := farey.Index(f)
		if e != api.OK || n != 3*(len(f.Vertices)-1)+odd {
			t.Fatal(i, n, e)
		}
		if l, e := farey.Sides(f); e != api.OK || !slices.Equal(l, sides(f)) {
			t.Fatal(i, l, e)
		}
		checkGenerators(t, f)
		a, _ := farey.Action(f)
		for j, m := range generators(f) {
			if m == nil || !isEntries(*m) {
				continue
			}
			if in, e := permutation.Contains(a, *m); e != api.OK || !in {
				t.Fatal(i, j, *m, e)
			}
		}
		if !equal(f, kept) {
			t.Fatal("the argument was changed")
		}
	}
}

func TestGreatGenerators(t *testing.T) { // P26.1
	const even, odd = api.Even, api.Odd
	seen := map[api.Errno]int{}
	for _, f := range []api.FareySymbol{
		{Vertices: cusps(0, 1), Labels: []int{odd, odd}}, {Vertices: cusps(0, 1), Labels: []int{odd, even}}, {Vertices: cusps(0, 1), Labels: []int{even, odd}}, {Vertices: cusps(0, 1, 1, 1), Labels: []int{1, odd, 1}}, {Vertices: cusps(0, 1, 1, 1), Labels: []int{1, even, 1}},
		{Vertices: cusps(0, 1, 1, 1), Labels: []int{1, 1, even}}, {Vertices: cusps(0, 1, 1, 1), Labels: []int{even, 1, 1}}, {Vertices: cusps(0, 1, 1, 1, 2, 1), Labels: []int{1, 2, 2, 1}}, {Vertices: cusps(0, 1, 1, 1, 2, 1), Labels: []int{1, 2, 1, 2}},
	} {
		// The entries are at most MaxEntry, 32768^2, for n^2 or 3 n^2 and a little more.
		for _, n := range []int{18918, 23170, 32768, top / 2} {
			for k := -4; k <= 4; k++ {
				seen[checkGenerators(t, shift(f, n+k))]++
				seen[checkGenerators(t, shift(f, -n+k))]++
			}
		}
		for _, n := range []int{top - 2, -top} {
			seen[checkGenerators(t, shift(f, n))]++
		}
	}
	if seen[api.OK] < 50 || seen[api.ErrLarge] < 50 {
		t.Error(seen)
	}
}

func TestKnownGenerators(t *testing.T) { // P26.1
	for _, x := range []struct {
		f    api.FareySymbol
		want []api.Mat2
	}{
		{whole, []api.Mat2{s, r3}}, {two, []api.Mat2{t1, {A: 1, B: -1, C: 2, D: -1}}}, {half, []api.Mat2{times(times(s, r3), inverse(s)), r3}},
	} {
		if l, e := farey.Generators(x.f); e != api.OK || !slices.Equal(l, x.want) {
			t.Error(x, l, e)
		}
	}
	if l, e := farey.Sides(two); e != api.OK || !slices.Equal(l, []api.Mat2{s, {A: 1, B: 0, C: 1, D: 1}, t1}) {
		t.Error(l, e)
	}
	for f, want := range map[*api.FareySymbol]int{&whole: 1, &half: 2, &two: 3} {
		if n, e := farey.Index(*f); e != api.OK || n != want {
			t.Error(f, n, e)
		}
	}
	long := integers(api.MaxIndex - 1)
	if n, e := farey.Index(long); e != api.OK || n != 3*1151 {
		t.Error(n, e)
	}
}

func TestAction(t *testing.T) { // P26.3
	for i, f := range symbols() {
		a, e := farey.Action(f)
		n, _ := farey.Index(f)
		if e != api.OK || permutation.Check(a) != api.OK || len(a.S) != n {
			t.Fatal(i, a, n, e)
		}
		if in, _ := permutation.Minus(a); !in {
			t.Fatal(i, "without -1")
		}
		if b, _ := permutation.Base(a, 0); !same(a, b) {
			t.Fatal(i, "has another numbering")
		}
		// The group of the action contains the generators and has their index.
		for _, m := range generators(f) {
			if m == nil || !isEntries(*m) {
				continue
			}
			if in, e := permutation.Contains(a, *m); e != api.OK || !in {
				t.Fatal(i, *m, e)
			}
		}
		// The group of a symbol that is moved by n is T^n G T^-n.
		for _, n := range []int{1, -2, 17, 12345} {
			moved, e := farey.Action(shift(f, n))
			j, _ := permutation.Move(a, 0, api.Mat2{A: 1, B: -n, D: 1})
			if b, _ := permutation.Base(a, j); e != api.OK || !same(moved, b) {
				t.Fatal(i, n, e)
			}
		}
	}
	for f, want := range map[*api.FareySymbol]api.CosetAction{&whole: {S: []int{0}, T: []int{0}}, &half: {S: []int{1, 0}, T: []int{1, 0}}, &two: {S: []int{1, 0, 2}, T: []int{0, 2, 1}}} {
		if a, e := farey.Action(*f); e != api.OK || !same(a, want) {
			t.Error(f, a, e)
		}
	}
	for _, n := range []int{top - 5, -top} {
		f := shift(integers(5), n)
		moved, e := farey.Action(f)
		a, _ := farey.Action(integers(5))
		j, _ := permutation.Move(a, 0, api.Mat2{A: 1, B: -n, D: 1})
		if b, _ := permutation.Base(a, j); e != api.OK || !same(moved, b) {
			t.Error(n, e)
		}
	}
}

func TestActionErrors(t *testing.T) { // P26.3
	full := integers(384)
	if a, e := farey.Action(full); e != api.OK || len(a.S) != api.MaxIndex {
		t.Error(len(a.S), e)
	}
	full.Labels[7] = api.Odd
	for _, f := range []api.FareySymbol{full, integers(385), integers(api.MaxIndex - 1), shift(integers(385), 5000)} {
		if a, e := farey.Action(f); e != api.ErrLarge || !isNoAction(a) {
			t.Error(len(a.S), e)
		}
		for _, m := range []api.Mat2{unit, {}, {A: top + 1}} {
			if l, in, e := farey.Reduce(f, m); e != api.ErrLarge || in || len(l) != 0 {
				t.Error(l, in, e)
			}
		}
	}
}

// symbol follows the definition of the symbol of a group, given by its projective action,
// and asks for the points of all matrices.
func symbol(t *testing.T, p api.CosetAction) (api.FareySymbol, bool) {
	isIn := func(x, y, z api.Mat2) bool { // x y z^-1
		i, _ := permutation.Move(p, point(t, p, x), y)
		return i == point(t, p, z)
	}
	l := []api.Cusp{infinity, {P: 0, Q: 1}, infinity}
	labels := []int{0, 0}
	matrix := func(i int) api.Mat2 {
		m := api.Mat2{A: l[i+1].P, B: l[i].P, C: l[i+1].Q, D: l[i].Q}
		if i == 0 {
			m.B = -1
		}
		return m
	}
	split := func(i int) bool {
		m := matrix(i)
		c := api.Cusp{P: m.A + m.B, Q: m.C + m.D}
		l = slices.Insert(l, i+1, c)
		labels = slices.Insert(labels, i, 0)
		return max(c.P, -c.P, c.Q) <= top
	}
	if isIn(s, unit, unit) {
		labels[0] = api.Even
	}
	if isIn(r3, unit, unit) {
		labels[1] = api.Odd
	} else {
		split(1)
	}
	for number := 0; ; {
		i := slices.Index(labels, 0)
		if i < 0 {
			return api.FareySymbol{Vertices: l[1 : len(l)-1], Labels: labels}, true
		}
		m := matrix(i)
		other := -1
		for j := i + 1; j < len(labels) && other < 0; j++ {
			if labels[j] == 0 && isIn(matrix(j), s, m) {
				other = j
			}
		}
		switch {
		case isIn(m, s, m):
			labels[i] = api.Even
		case isIn(m, r3, m):
			labels[i] = api.Odd
		case other >= 0:
			number++
			labels[i], labels[other] = number, number
		case !split(i):
			return api.FareySymbol{}, false
		}
	}
}

func TestOf(t *testing.T) { // P26.2, P26.3
	large := 0
	for i, a := range actions(t) {
		kept := api.CosetAction{S: slices.Clone(a.S), T: slices.Clone(a.T)}
		p, _ := permutation.Projective(a)
		f, e := farey.Of(a)
		if want, ok := symbol(t, p); !ok {
			large++
			if e != api.ErrLarge || !isNoSymbol(f) {
				t.Fatal(i, f, e)
			}
			continue
		} else if e != api.OK || !equal(f, want) || farey.Check(f) != api.OK {
			t.Fatal(i, f, want, e)
		}
		if n, _ := farey.Index(f); n != len(p.S) {
			t.Fatal(i, n)
		}
		count := map[int]int{}
		for _, label := range f.Labels {
			count[min(label, 1)]++
		}
		if g, _ := signature.Of(a); count[api.Even] != g.Nu2 || count[api.Odd] != g.Nu3 || count[1] != 2*(2*g.Genus+g.Cusps-1) {
			t.Fatal(i, f, g)
		}
		based, _ := permutation.Base(p, 0)
		if b, e := farey.Action(f); e != api.OK || !same(b, based) {
			t.Fatal(i, f, e)
		}
		if !same(a, kept) {
			t.Fatal("the argument was changed")
		}
	}
	if large < 2 {
		t.Error(large)
	}
}

func TestKnownSymbols(t *testing.T) { // P26.2
	const even, odd = api.Even, api.Odd
	for _, x := range []struct {
		a    api.CosetAction
		want api.FareySymbol
	}{
		{of(t, api.Gamma0, 1), whole}, {of(t, api.Gamma0, 2), two}, {api.CosetAction{S: []int{1, 0}, T: []int{1, 0}}, half}, {of(t, api.GammaUp0, 2), api.FareySymbol{Vertices: cusps(0, 1, 1, 1), Labels: []int{1, 1, even}}},
		{of(t, api.Gamma0, 3), api.FareySymbol{Vertices: cusps(0, 1, 1, 1), Labels: []int{1, odd, 1}}}, {of(t, api.Gamma0, 4), api.FareySymbol{Vertices: cusps(0, 1, 1, 2, 1, 1), Labels: []int{1, 2, 2, 1}}},
		{of(t, api.Gamma0, 11), api.FareySymbol{Vertices: cusps(0, 1, 1, 4, 1, 3, 1, 2, 1, 1), Labels: []int{1, 2, 3, 2, 3, 1}}}, {of(t, api.GammaFull, 2), api.FareySymbol{Vertices: cusps(-1, 1, 0, 1, 1, 1), Labels: []int{1, 2, 2, 1}}},
	} {
		if f, e := farey.Of(x.a); e != api.OK || !equal(f, x.want) {
			t.Error(x, f, e)
		}
	}
}

func TestOfErrors(t *testing.T) { // P26.2
	for _, x := range []struct {
		a    api.CosetAction
		want api.Errno
	}{
		{api.CosetAction{}, api.ErrRange}, {api.CosetAction{S: make([]int, api.MaxIndex+1)}, api.ErrRange}, {api.CosetAction{S: []int{0}}, api.ErrShape}, {api.CosetAction{S: []int{1}, T: []int{0}}, api.ErrForm},
		{api.CosetAction{S: []int{0, 1}, T: []int{0, 1}}, api.ErrForm}, {api.CosetAction{S: []int{0, 1}, T: []int{1, 0}}, api.ErrForm}, {api.CosetAction{S: []int{0}, T: []int{-1}}, api.ErrForm}, {of(t, api.GammaFull, 9), api.ErrLarge}, {of(t, api.Gamma0, 120), api.ErrLarge},
	} {
		if f, e := farey.Of(x.a); e != x.want || !isNoSymbol(f) {
			t.Error(f, e, x.want)
		}
	}
}

// Nothing of a result is used again by a later call, nor by another part of the result.
func TestMemory(t *testing.T) { // R3
	a := of(t, api.Gamma0, 11)
	f, _ := farey.Of(a)
	kept := clone(f)
	spoiled := f.Vertices[:cap(f.Vertices)]
	for i := range spoiled {
		spoiled[i] = api.Cusp{P: -7, Q: -7}
	}
	if !slices.Equal(f.Labels, kept.Labels) {
		t.Error("vertices and labels share memory")
	}
	clear(f.Labels[:cap(f.Labels)])
	if again, _ := farey.Of(a); !equal(again, kept) {
		t.Error(again)
	}
	b, _ := farey.Action(kept)
	first := slices.Clone(b.T)
	clear(b.S[:cap(b.S)])
	if !slices.Equal(b.T, first) {
		t.Error("S and T share memory")
	}
	l, _ := farey.Sides(kept)
	clear(l[:cap(l)])
	g, _ := farey.Generators(kept)
	clear(g[:cap(g)])
	m := api.Mat2{A: 7, B: -2, C: 11, D: -3}
	w, in, _ := farey.Reduce(kept, m)
	word := slices.Clone(w)
	clear(w[:cap(w)])
	if again, _, _ := farey.Reduce(kept, m); !in || len(word) == 0 || !slices.Equal(again, word) {
		t.Error(again, word)
	}
	if again, _ := farey.Sides(kept); !slices.Equal(again, sides(kept)) {
		t.Error(again)
	}
	r := rand.New(rand.NewSource(9))
	if again, _ := farey.Generators(kept); len(again) != 3 || again[r.Intn(3)] == (api.Mat2{}) {
		t.Error(again)
	}
}
