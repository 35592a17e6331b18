package cusps_test

import (
	"math"
	"math/rand"
	"slices"
	"testing"

	"halfplane/api"
	"halfplane/cusps"
	"halfplane/permutation"
	"halfplane/sl2"
)

// classes follows the definition of the classes.
func classes(a api.CosetAction) ([]api.CuspClass, []int) {
	minus := a.S[a.S[0]] == 0
	class := slices.Repeat([]int{-1}, len(a.S))
	var l []api.CuspClass
	for i := range class {
		if class[i] >= 0 {
			continue
		}
		points := []int{i}
		class[i] = len(l)
		for k := 0; k < len(points); k++ {
			for _, j := range []int{a.T[points[k]], a.S[a.S[points[k]]]} {
				if class[j] < 0 {
					class[j] = len(l)
					points = append(points, j)
				}
			}
		}
		c := api.CuspClass{Point: i, Width: len(points), Regular: true}
		if !minus {
			c.Width /= 2
			j := i
			for range c.Width {
				j = a.T[j]
			}
			c.Regular = j == i
		}
		l = append(l, c)
	}
	return l, class
}

func TestClasses(t *testing.T) { // P24.1
	irregular := 0
	for k, a := range samples(t) {
		kept := api.CosetAction{S: slices.Clone(a.S), T: slices.Clone(a.T)}
		want, class := classes(a)
		l, e := cusps.Classes(a)
		if e != api.OK || !slices.Equal(l, want) {
			t.Fatal(k, l, want, e)
		}
		for i, x := range class {
			if j, e := cusps.Class(a, i); e != api.OK || j != x {
				t.Fatal(k, i, j, x, e)
			}
		}
		p, _ := permutation.Projective(a)
		level, _ := permutation.Level(a)
		sum, lcm := 0, 1
		for _, c := range l {
			sum += c.Width
			lcm = lcm / gcd(lcm, c.Width) * c.Width
			if !c.Regular {
				irregular++
			}
		}
		if sum != len(p.S) || lcm != level {
			t.Fatal(k, l, sum, lcm, level)
		}
		for _, i := range []int{-1, len(a.S), math.MaxInt, math.MinInt} {
			if j, e := cusps.Class(a, i); e != api.ErrRange || j != 0 {
				t.Error(k, i, j, e)
			}
		}
		if !slices.Equal(a.S, kept.S) || !slices.Equal(a.T, kept.T) {
			t.Fatal("the argument was changed")
		}
	}
	if irregular < 5 {
		t.Error(irregular)
	}
	// In Gamma1(4), -1 and T together move the coset of a lower row (2 1) to itself.
	l, e := cusps.Classes(of(t, api.Gamma1, 4))
	widths := []int{l[0].Width, l[1].Width, l[2].Width}
	slices.Sort(widths)
	if e != api.OK || len(l) != 3 || !slices.Equal(widths, []int{1, 1, 4}) {
		t.Error(l, e)
	}
	if l, e := cusps.Classes(of(t, api.Gamma0, 2)); e != api.OK || !slices.Equal(l, []api.CuspClass{{Point: 0, Width: 1, Regular: true}, {Point: 1, Width: 2, Regular: true}}) {
		t.Error(l, e)
	}
}

func TestIrregular(t *testing.T) { // P24.1
	for n := 1; n <= 34; n++ {
		l, e := cusps.Classes(of(t, api.Gamma1, n))
		irregular := 0
		for _, c := range l {
			if !c.Regular {
				irregular++
			}
		}
		if want := map[bool]int{true: 1}[n == 4]; e != api.OK || irregular != want {
			t.Error(n, irregular, e)
		}
	}
	// T generates the quotient by the commutators, of order 12: one cusp of width 6.
	l, e := cusps.Classes(samples(t)[0])
	if e != api.OK || !slices.Equal(l, []api.CuspClass{{Point: 0, Width: 6}}) {
		t.Error(l, e)
	}
}

func TestClassesErrors(t *testing.T) { // P24.1
	for _, x := range malformed {
		if l, e := cusps.Classes(x.a); e != x.want || len(l) != 0 {
			t.Error(x, l, e)
		}
		for _, i := range []int{0, -1, math.MaxInt, math.MinInt} {
			if j, e := cusps.Class(x.a, i); e != x.want || j != 0 {
				t.Error(x, i, j, e)
			}
		}
	}
}

// list follows the definition of the list of the cusps of Gamma0(n).
func list(n int) []api.Cusp {
	var l []api.Cusp
	for _, d := range divisors(n) {
		g := gcd(d, n/d)
		seen := map[int]bool{}
		for p := 1; p <= d*g; p++ {
			if gcd(p, d) == 1 && !seen[p%g] {
				seen[p%g] = true
				l = append(l, api.Cusp{P: p, Q: d})
			}
		}
	}
	return l
}

func TestList0(t *testing.T) { // P24.2
	for n := 1; n <= api.MaxLevel; n++ {
		a := of(t, api.Gamma0, n)
		c, _ := cusps.Classes(a)
		count, e := cusps.Count0(n)
		if e != api.OK || count != len(c) {
			t.Error(n, count, len(c), e)
		}
		sum := 0
		for _, d := range divisors(n) {
			g := gcd(d, n/d)
			for i := range g {
				if gcd(i, g) == 1 {
					sum++
				}
			}
		}
		if count != sum {
			t.Error(n, count, sum)
		}
		l, e := cusps.List0(n)
		if e != api.OK || !slices.Equal(l, list(n)) || len(l) != count {
			t.Error(n, l, e)
		}
		widths := 0
		classes := map[int]bool{}
		for _, x := range l {
			i, _ := permutation.Move(a, 0, matrix(x))
			k, _ := cusps.Class(a, i)
			width, e := cusps.Width0(n, x)
			if e != api.OK || width != c[k].Width || classes[k] {
				t.Error(n, x, width, e)
			}
			classes[k] = true
			widths += width
		}
		if widths != len(a.S) {
			t.Error(n, widths)
		}
	}
	for n, want := range map[int][]api.Cusp{1: {{P: 1, Q: 1}}, 4: {{P: 1, Q: 1}, {P: 1, Q: 2}, {P: 1, Q: 4}}, 9: {{P: 1, Q: 1}, {P: 1, Q: 3}, {P: 2, Q: 3}, {P: 1, Q: 9}}, 45: {{P: 1, Q: 1}, {P: 1, Q: 3}, {P: 2, Q: 3}, {P: 1, Q: 5}, {P: 1, Q: 9}, {P: 1, Q: 15}, {P: 2, Q: 15}, {P: 1, Q: 45}}, 72: list(72)} {
		if l, e := cusps.List0(n); e != api.OK || !slices.Equal(l, want) {
			t.Error(n, l, e)
		}
	}
	// The remainders 1 and 2 modulo 3: 5/6 is the first fraction with the second one.
	if l, e := cusps.List0(36); e != api.OK || !slices.Contains(l, api.Cusp{P: 5, Q: 6}) || slices.Contains(l, api.Cusp{P: 7, Q: 6}) {
		t.Error(l, e)
	}
}

func TestWidth0(t *testing.T) { // P24.2
	r := rand.New(rand.NewSource(1))
	for n := 1; n <= api.MaxLevel; n++ {
		for _, c := range someCusps(r, 30) {
			// The least power of T in the conjugate of Gamma0(n).
			m := matrix(c)
			want := 1
			for times(times(m, api.Mat2{A: 1, B: want, D: 1}), inverse(m)).C%n != 0 {
				want++
			}
			if width, e := cusps.Width0(n, c); e != api.OK || width != want {
				t.Error(n, c, width, want, e)
			}
		}
	}
	for _, x := range []struct{ n, p, q, want int }{{4, 1, 1, 4}, {4, 1, 2, 1}, {4, 1, 4, 1}, {4, 1, 0, 1}, {4, 0, 1, 4}, {120, 1, 0, 1}, {120, 1000, 999, 40}, {120, 7, 1000, 3}} {
		if width, e := cusps.Width0(x.n, api.Cusp{P: x.p, Q: x.q}); e != api.OK || width != x.want {
			t.Error(x, width, e)
		}
	}
}

func TestCuspErrors(t *testing.T) { // P24.2, P24.3
	equal := func(n int, x, y api.Cusp, want api.Errno) {
		t.Helper()
		if same, m, e := cusps.Equal0(n, x, y); e != want || same || m != (api.Mat2{}) {
			t.Error("Equal0", n, x, y, same, m, e)
		}
	}
	for _, n := range noLevels {
		if count, e := cusps.Count0(n); e != api.ErrRange || count != 0 {
			t.Error("Count0", n, count, e)
		}
		if l, e := cusps.List0(n); e != api.ErrRange || len(l) != 0 {
			t.Error("List0", n, l, e)
		}
		for _, c := range []api.Cusp{infinity, {}, {P: 1, Q: 1001}} {
			if width, e := cusps.Width0(n, c); e != api.ErrRange || width != 0 {
				t.Error("Width0", n, c, width, e)
			}
			equal(n, c, infinity, api.ErrRange)
			equal(n, infinity, c, api.ErrRange)
		}
	}
	for x, want := range noCusps {
		for _, n := range []int{1, 12, 120} {
			if width, e := cusps.Width0(n, x); e != want || width != 0 {
				t.Error("Width0", n, x, width, e)
			}
			equal(n, x, infinity, want)
			equal(n, infinity, x, want)
			for y := range noCusps {
				equal(n, x, y, want)
			}
		}
	}
	for _, c := range []api.Cusp{{P: 1000, Q: 1}, {P: -1000, Q: 1}, {P: 1, Q: 1000}, {P: -999, Q: 1000}} {
		if _, e := cusps.Width0(7, c); e != api.OK {
			t.Error(c, e)
		}
		if _, _, e := cusps.Equal0(7, c, c); e != api.OK {
			t.Error(c, e)
		}
	}
}

// witness follows the definition: it tries all k up to n.
func witness(n int, x, y api.Cusp) (bool, api.Mat2) {
	for k := range n + 1 {
		if m := times(times(matrix(y), api.Mat2{A: 1, B: k, D: 1}), inverse(matrix(x))); m.C%n == 0 {
			return true, m
		}
	}
	return false, api.Mat2{}
}

func TestEqual0(t *testing.T) { // P24.3
	r := rand.New(rand.NewSource(2))
	for n := 1; n <= api.MaxLevel; n++ {
		a := of(t, api.Gamma0, n)
		class := func(c api.Cusp) int {
			i, _ := permutation.Move(a, 0, matrix(c))
			k, _ := cusps.Class(a, i)
			return k
		}
		l := someCusps(r, 16)
		for _, x := range l {
			for _, y := range l {
				want, m := witness(n, x, y)
				same, g, e := cusps.Equal0(n, x, y)
				if e != api.OK || same != want || g != m || same != (class(x) == class(y)) {
					t.Fatal(n, x, y, same, g, e)
				}
				if !same {
					continue
				}
				if image, e := sl2.Apply(g, x); g.C%n != 0 || sl2.Check(g) != api.OK || e != api.OK || image != y {
					t.Fatal(n, x, y, g)
				}
			}
		}
	}
	for _, x := range []struct {
		n    int
		x, y api.Cusp
		m    api.Mat2
	}{
		{4, infinity, api.Cusp{P: 1, Q: 4}, api.Mat2{A: 1, C: 4, D: 1}}, {4, infinity, infinity, api.Mat2{A: 1, D: 1}}, {4, api.Cusp{P: 1, Q: 2}, infinity, api.Mat2{}}, {1, api.Cusp{P: 0, Q: 1}, infinity, api.Mat2{B: 1, C: -1}},
		{9, api.Cusp{P: 1, Q: 3}, api.Cusp{P: 2, Q: 3}, api.Mat2{}}, {9, api.Cusp{P: 1, Q: 3}, api.Cusp{P: 1, Q: 3}, api.Mat2{A: 1, D: 1}},
	} {
		if same, m, e := cusps.Equal0(x.n, x.x, x.y); e != api.OK || m != x.m || same != (m != api.Mat2{}) {
			t.Error(x, same, m, e)
		}
	}
}

func TestImages(t *testing.T) { // P24.3
	r := rand.New(rand.NewSource(3))
	images := 0
	for n := 1; n <= api.MaxLevel; n++ {
		l, _ := cusps.List0(n)
		for _, x := range someCusps(r, 12) {
			found := 0
			for _, y := range l {
				if same, _, e := cusps.Equal0(n, x, y); e == api.OK && same {
					found++
				}
			}
			if found != 1 {
				t.Fatal(n, x, found)
			}
			y, e := sl2.Apply(random(r, n), x)
			if e != api.OK || max(y.P, -y.P, y.Q) > 1000 {
				continue
			}
			if x != y {
				images++
			}
			if same, _, e := cusps.Equal0(n, x, y); e != api.OK || !same {
				t.Fatal(n, x, y, e)
			}
		}
	}
	if images < 200 {
		t.Error(images)
	}
}

func TestAtkinLehner(t *testing.T) { // P24.4
	r := rand.New(rand.NewSource(4))
	for n := 1; n <= api.MaxLevel; n++ {
		for _, q := range divisors(n) {
			w, e := cusps.AtkinLehner(n, q)
			if gcd(q, n/q) != 1 {
				if e != api.ErrCoprime || w != (api.Mat2{}) {
					t.Error(n, q, w, e)
				}
				continue
			}
			x := 0
			for (q*x-1)%(n/q) != 0 {
				x++
			}
			if e != api.OK || w != (api.Mat2{A: q * x, B: (q*x - 1) / (n / q), C: n, D: q}) || w.A*w.D-w.B*w.C != q {
				t.Error(n, q, w, e)
			}
			square := times(w, w)
			if square.A%q != 0 || square.B%q != 0 || square.C%q != 0 || square.D%q != 0 || square.C/q%n != 0 {
				t.Error(n, q, square)
			}
			for range 5 {
				// W g W^-1 is q times too great with the adjoint of W.
				m := times(times(w, random(r, n)), inverse(w))
				if m.A%q != 0 || m.B%q != 0 || m.C%q != 0 || m.D%q != 0 || m.C/q%n != 0 {
					t.Error(n, q, m)
				}
			}
		}
		for _, q := range []int{0, -1, -n, n + 1, 2 * n, math.MaxInt, math.MinInt} {
			if w, e := cusps.AtkinLehner(n, q); e != api.ErrRange || w != (api.Mat2{}) {
				t.Error(n, q, w, e)
			}
		}
	}
	for _, x := range []struct {
		n, q int
		want api.Mat2
	}{{6, 2, api.Mat2{A: 4, B: 1, C: 6, D: 2}}, {6, 1, api.Mat2{A: 1, C: 6, D: 1}}, {6, 6, api.Mat2{B: -1, C: 6, D: 6}}, {1, 1, api.Mat2{B: -1, C: 1, D: 1}}, {12, 4, api.Mat2{A: 4, B: 1, C: 12, D: 4}}} {
		if w, e := cusps.AtkinLehner(x.n, x.q); e != api.OK || w != x.want {
			t.Error(x, w, e)
		}
	}
	for _, n := range noLevels {
		for _, q := range []int{1, 0, n} {
			if w, e := cusps.AtkinLehner(n, q); e != api.ErrRange || w != (api.Mat2{}) {
				t.Error(n, q, w, e)
			}
		}
	}
	for _, x := range []struct {
		n, q int
		want api.Errno
	}{{4, 2, api.ErrCoprime}, {6, 4, api.ErrRange}, {12, 6, api.ErrCoprime}, {120, 7, api.ErrRange}, {8, 16, api.ErrRange}} {
		if w, e := cusps.AtkinLehner(x.n, x.q); e != x.want || w != (api.Mat2{}) {
			t.Error(x, w, e)
		}
	}
}

// Nothing of a result is used again by a later call.
func TestMemory(t *testing.T) { // R3
	a := of(t, api.Gamma0, 12)
	c, _ := cusps.Classes(a)
	keptC := slices.Clone(c)
	for i := range c {
		c[i] = api.CuspClass{}
	}
	if again, _ := cusps.Classes(a); !slices.Equal(again, keptC) {
		t.Error(again)
	}
	l, _ := cusps.List0(12)
	keptL := slices.Clone(l)
	for i := range l {
		l[i] = api.Cusp{}
	}
	if again, _ := cusps.List0(12); !slices.Equal(again, keptL) {
		t.Error(again)
	}
}
