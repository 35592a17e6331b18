package farey_test

import (
	"math"
	"math/rand"
	"slices"
	"testing"

	"halfplane/api"
	"halfplane/farey"
	"halfplane/permutation"
	"halfplane/sl2"
)

// letters returns the letters of a symbol.
func letters(f api.FareySymbol) []api.FareyLetter {
	var l []api.FareyLetter
	for i, m := range generators(f) {
		if m == nil {
			continue
		}
		l = append(l, api.FareyLetter{Side: i})
		if f.Labels[i] != api.Even {
			l = append(l, api.FareyLetter{Side: i, Inverse: true})
		}
	}
	return l
}

// product follows the definition of the product of a word, as long as its entries are
// small enough.
func product(f api.FareySymbol, l []api.FareyLetter) (api.Mat2, bool) {
	all := generators(f)
	m := unit
	for _, x := range l {
		g := *all[x.Side]
		if x.Inverse {
			g = inverse(g)
		}
		if !isEntries(g) {
			return m, false
		}
		if m = times(m, g); !isEntries(m) {
			return m, false
		}
	}
	return m, true
}

// isReducedWord follows the definition.
func isReducedWord(f api.FareySymbol, l []api.FareyLetter) bool {
	for i, x := range l {
		label := f.Labels[x.Side]
		if label == api.Even && x.Inverse || slices.Index(f.Labels, label) < x.Side && label > 0 {
			return false
		}
		if i == 0 || l[i-1].Side != x.Side {
			continue
		}
		if label < 0 || l[i-1].Inverse != x.Inverse {
			return false
		}
	}
	return true
}

// small reports whether Reduce takes a matrix.
func small(m api.Mat2) bool {
	w, e := sl2.Factor(m)
	steps := 0
	for _, n := range w.Exps {
		steps += max(n, -n)
	}
	return e == api.OK && steps <= 2000
}

// fitting returns the symbols that Reduce takes.
func fitting() []api.FareySymbol {
	var l []api.FareySymbol
	for _, f := range symbols() {
		greatest := 0
		for _, c := range f.Vertices {
			greatest = max(greatest, c.P, -c.P, c.Q)
		}
		if greatest <= 1000 {
			l = append(l, f)
		}
		if greatest <= 60 {
			l = append(l, shift(f, 9), shift(f, -14))
		}
	}
	return append(l, shift(half, 31), shift(two, -20))
}

func TestWords(t *testing.T) { // P26.4, P26.5
	r := rand.New(rand.NewSource(3))
	reduced, long := 0, 0
	for i, f := range fitting() {
		alphabet := letters(f)
		kept := clone(f)
		for range 60 {
			var word []api.FareyLetter
			for range r.Intn(9) {
				if next := append(slices.Clone(word), alphabet[r.Intn(len(alphabet))]); r.Intn(3) == 0 || isReducedWord(f, next) {
					word = next
				}
			}
			m, e := farey.Multiply(f, word)
			want, ok := product(f, word)
			if !ok {
				if e != api.ErrLarge || m != (api.Mat2{}) {
					t.Fatal(i, f, word, m, e)
				}
				continue
			}
			if e != api.OK || m != want {
				t.Fatal(i, f, word, m, want, e)
			}
			if !small(m) {
				continue
			}
			got, in, e := farey.Reduce(f, m)
			if e != api.OK || !in || !isReducedWord(f, got) {
				t.Fatal(i, f, word, got, in, e)
			}
			// A reduced word is the only one.
			if isReducedWord(f, word) {
				reduced++
				if len(word) > 3 {
					long++
				}
				if !slices.Equal(got, word) {
					t.Fatal(i, f, word, got)
				}
			} else if back, e := farey.Multiply(f, got); e != api.OK || !alike(back, m) {
				t.Fatal(i, f, word, got, back, e)
			}
			if again, in, e := farey.Reduce(f, times(minus, m)); e != api.OK || !in || !slices.Equal(again, got) {
				t.Fatal(i, f, again, in, e)
			}
		}
		if !equal(f, kept) {
			t.Fatal("the argument was changed")
		}
	}
	if reduced < 2000 || long < 200 {
		t.Error(reduced, long)
	}
}

func TestReduce(t *testing.T) { // P26.4
	r := rand.New(rand.NewSource(4))
	inside, outside := 0, 0
	for i, f := range fitting() {
		a, _ := farey.Action(f)
		for range 30 {
			m, at := unit, 0
			for k := 0; k < 12 || k < 40 && at != 0; k++ {
				n := r.Intn(5) - 2
				if next := times(times(m, s), api.Mat2{A: 1, B: n, D: 1}); isEntries(next) {
					m = next
				}
				at, _ = permutation.Move(a, 0, m)
			}
			l, in, e := farey.Reduce(f, m)
			if e != api.OK || in != (at == 0) {
				t.Fatal(i, f, m, l, in, at, e)
			}
			if !in {
				outside++
				if len(l) != 0 {
					t.Fatal(i, f, m, l)
				}
				continue
			}
			inside++
			if !isReducedWord(f, l) {
				t.Fatal(i, f, m, l)
			}
			if back, e := farey.Multiply(f, l); e == api.OK && !alike(back, m) || e != api.OK && e != api.ErrLarge {
				t.Fatal(i, f, m, l, back, e)
			}
		}
	}
	if inside < 1000 || outside < 1000 {
		t.Error(inside, outside)
	}
	l, in, e := farey.Reduce(two, api.Mat2{A: 1, B: 2000, D: 1})
	if e != api.OK || !in || !slices.Equal(l, slices.Repeat([]api.FareyLetter{{Side: 0}}, 2000)) {
		t.Error(len(l), in, e)
	}
	if l, in, e := farey.Reduce(two, minus); e != api.OK || !in || len(l) != 0 {
		t.Error(l, in, e)
	}
	if l, in, e := farey.Reduce(two, s); e != api.OK || in || len(l) != 0 {
		t.Error(l, in, e)
	}
	if l, in, e := farey.Reduce(half, r3); e != api.OK || !in || !slices.Equal(l, []api.FareyLetter{{Side: 1}}) {
		t.Error(l, in, e)
	}
}

func TestFarVertices(t *testing.T) { // P26.4
	// T is a product of a letter of order 2 and one of order 3 at the vertex n; n times T
	// is such a word, and all of it around the word of a matrix.
	for _, n := range []int{1000, -1000, 999, 500} {
		f := shift(whole, n)
		for _, m := range []api.Mat2{unit, t1, s, r3, {A: 1, B: 1500, D: 1}, {A: 5, B: 2, C: 2, D: 1}} {
			l, in, e := farey.Reduce(f, m)
			if e != api.OK || !in || !isReducedWord(f, l) {
				t.Fatal(n, m, len(l), in, e)
			}
			if m == unit && len(l) != 0 || m == t1 && len(l) != 2 {
				t.Fatal(n, m, l)
			}
			// The partial products of a long word have small entries for m = T^1500 alone.
			back, e := farey.Multiply(f, l)
			if e == api.OK && !alike(back, m) || e != api.OK && (e != api.ErrLarge || m == t1) && len(l) <= 4000 {
				t.Fatal(n, m, back, e)
			}
		}
	}
	f := shift(half, 1000)
	if l, in, e := farey.Reduce(f, t1); e != api.OK || in || len(l) != 0 {
		t.Error(l, in, e)
	}
	if l, in, e := farey.Reduce(f, api.Mat2{A: 1, B: 2, D: 1}); e != api.OK || !in || len(l) != 2 || l[0].Side == l[1].Side {
		t.Error(l, in, e)
	}
}

// descent returns a symbol with Even sides that has the vertex p/q between 0 and 1.
func descent(p, q int) api.FareySymbol {
	l := cusps(0, 1, 1, 1)
	for i := 1; ; {
		c := api.Cusp{P: l[i-1].P + l[i].P, Q: l[i-1].Q + l[i].Q}
		l = slices.Insert(l, i, c)
		if c.Q == q {
			return api.FareySymbol{Vertices: l, Labels: slices.Repeat([]int{api.Even}, len(l)+1)}
		}
		if c.P*q < p*c.Q {
			i++
		}
	}
}

func TestReduceErrors(t *testing.T) { // P26.4
	for _, f := range []api.FareySymbol{shift(whole, 1001), shift(whole, -1001), shift(two, 1000), shift(two, -1001), shift(integers(5), top-5)} {
		for _, m := range []api.Mat2{unit, {}, {A: top + 1}, {A: 1, B: 2001, D: 1}} {
			if l, in, e := farey.Reduce(f, m); e != api.ErrLarge || in || len(l) != 0 {
				t.Error(f, m, l, in, e)
			}
		}
	}
	for _, m := range []api.Mat2{unit, {}, t1} {
		if l, in, e := farey.Reduce(descent(382, 1001), m); e != api.ErrLarge || in || len(l) != 0 {
			t.Error(m, l, in, e)
		}
	}
	if l, in, e := farey.Reduce(descent(381, 1000), unit); e != api.OK || !in || len(l) != 0 {
		t.Error(l, in, e)
	}
	for m, want := range map[api.Mat2]api.Errno{
		{}: api.ErrMember, {A: 1, D: -1}: api.ErrMember, {A: top + 1, D: 1}: api.ErrRange, {A: 1, B: math.MinInt, D: 1}: api.ErrRange, {A: 1, C: math.MaxInt, D: 1}: api.ErrRange,
		{A: 1, B: 2001, D: 1}: api.ErrLarge, {A: 1, B: -2001, D: 1}: api.ErrLarge, {A: 1, B: top, D: 1}: api.ErrLarge, {A: 1, B: 0, C: 2001, D: 1}: api.ErrLarge, times(api.Mat2{A: 1, B: 1000, D: 1}, times(s, api.Mat2{A: 1, B: -1001, D: 1})): api.ErrLarge,
		{A: 1, B: 2000, D: 1}: api.OK, {A: 1, B: -2000, D: 1}: api.OK, {A: 1, B: 0, C: 2000, D: 1}: api.OK, times(api.Mat2{A: 1, B: 1000, D: 1}, times(s, api.Mat2{A: 1, B: -1000, D: 1})): api.OK,
	} {
		for _, f := range []api.FareySymbol{whole, two, shift(whole, 1000)} {
			if l, in, e := farey.Reduce(f, m); e != want || want != api.OK && (in || len(l) != 0) {
				t.Error(f, m, len(l), in, e, want)
			}
		}
	}
}

func TestMultiply(t *testing.T) { // P26.5
	pair, even, odd := api.FareyLetter{Side: 0}, api.FareyLetter{Side: 1}, api.FareyLetter{Side: 1}
	back := api.FareyLetter{Side: 0, Inverse: true}
	three := api.FareySymbol{Vertices: cusps(0, 1, 1, 1), Labels: []int{1, api.Odd, 1}}
	repeat := func(x api.FareyLetter, n int) []api.FareyLetter { return slices.Repeat([]api.FareyLetter{x}, n) }
	for _, x := range []struct {
		f    api.FareySymbol
		l    []api.FareyLetter
		want api.Mat2
	}{
		{two, nil, unit}, {two, repeat(pair, 4000), api.Mat2{A: 1, B: 4000, D: 1}}, {two, repeat(back, 7), api.Mat2{A: 1, B: -7, D: 1}}, {two, []api.FareyLetter{even}, api.Mat2{A: 1, B: -1, C: 2, D: -1}},
		{two, []api.FareyLetter{{Side: 1, Inverse: true}}, api.Mat2{A: -1, B: 1, C: -2, D: 1}}, {two, repeat(even, 2), minus}, {two, repeat(even, 4000), unit}, {two, repeat(even, 3998), minus}, {two, []api.FareyLetter{pair, back}, unit},
		{three, repeat(odd, 3), minus}, {three, repeat(odd, 6), unit}, {whole, []api.FareyLetter{{Side: 0}, {Side: 1}}, times(s, r3)}, {whole, []api.FareyLetter{{Side: 1}, {Side: 0, Inverse: true}}, times(r3, inverse(s))},
	} {
		if m, e := farey.Multiply(x.f, x.l); e != api.OK || m != x.want {
			t.Error(x, m, e)
		}
	}
}

func TestMultiplyErrors(t *testing.T) { // P26.5
	repeat := func(n int, l ...api.FareyLetter) []api.FareyLetter { return slices.Repeat(l, n) }
	pair, even, back, alien := api.FareyLetter{Side: 0}, api.FareyLetter{Side: 1}, api.FareyLetter{Side: 0, Inverse: true}, api.FareyLetter{Side: 2}
	high := shift(two, top-1) // its Even side has a great generator
	growing := repeat(40, pair, even, back, even)
	falling := slices.Clone(growing)
	slices.Reverse(falling)
	for i, x := range falling {
		if x.Side == 0 {
			falling[i].Inverse = !x.Inverse
		}
	}
	for i, x := range []struct {
		f    api.FareySymbol
		l    []api.FareyLetter
		want api.Errno
	}{
		{two, repeat(4001, pair), api.ErrRange}, {two, repeat(4001, alien), api.ErrRange}, {high, repeat(5000, even), api.ErrRange},
		{two, repeat(1, alien), api.ErrMember}, {two, repeat(1, api.FareyLetter{Side: 2, Inverse: true}), api.ErrMember}, {two, repeat(1, api.FareyLetter{Side: -1}), api.ErrMember}, {two, repeat(1, api.FareyLetter{Side: 3}), api.ErrMember}, {two, repeat(1, api.FareyLetter{Side: math.MaxInt}), api.ErrMember}, {two, repeat(1, api.FareyLetter{Side: math.MinInt}), api.ErrMember},
		{two, append(slices.Clone(growing), alien), api.ErrMember}, {high, []api.FareyLetter{even, alien}, api.ErrMember}, {high, []api.FareyLetter{pair, api.FareyLetter{Side: 4}}, api.ErrMember},
		{two, growing, api.ErrLarge}, {two, append(growing, falling...), api.ErrLarge}, {high, repeat(1, even), api.ErrLarge}, {high, repeat(2, even), api.ErrLarge}, {high, []api.FareyLetter{pair, even}, api.ErrLarge},
		{high, []api.FareyLetter{pair, back, pair}, api.OK},
	} {
		m, e := farey.Multiply(x.f, x.l)
		if e != x.want || (x.want == api.OK) != (m != (api.Mat2{})) {
			t.Error(i, m, e, x.want)
		}
	}
}
