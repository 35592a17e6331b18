package projline_test

import (
	"math"
	"math/rand"
	"slices"
	"testing"

	"halfplane/api"
	"halfplane/projline"
	"halfplane/sl2"
)

const top = api.MaxEntry

// beyond are numbers that no entry may be.
var beyond = []int{top + 1, -top - 1, math.MaxInt, math.MinInt}

// noLevels are numbers that are no levels.
var noLevels = []int{0, -1, -120, api.MaxLevel + 1, math.MaxInt, math.MinInt}

// gcd is Euclid's algorithm, for comparison.
func gcd(a, b int) int {
	for b != 0 {
		a, b = b, a%b
	}
	return max(a, -a)
}

func mod(a, n int) int {
	return (a%n + n) % n
}

// normal follows the definition of the normal form and of the unit.
func normal(n, c, d int) api.ProjPoint {
	c, d = mod(c, n), mod(d, n)
	best := [2]int{n, n}
	for t := 1; t <= n; t++ {
		if x := [2]int{t * c % n, t * d % n}; gcd(t, n) == 1 && slices.Compare(x[:], best[:]) < 0 {
			best = x
		}
	}
	for s := 1; s <= n; s++ {
		if gcd(s, n) == 1 && s*best[0]%n == c && s*best[1]%n == d {
			return api.ProjPoint{U: best[0], V: best[1], Unit: s}
		}
	}
	return api.ProjPoint{}
}

// points follows the definition of the list.
func points(n int) []api.ProjPoint {
	var l []api.ProjPoint
	for u := range n {
		for v := range n {
			if p := normal(n, u, v); gcd(gcd(u, v), n) == 1 && p.U == u && p.V == v {
				l = append(l, api.ProjPoint{U: u, V: v, Unit: 1})
			}
		}
	}
	return l
}

// list is projline.List, which must not fail.
func list(t *testing.T, n int) []api.ProjPoint {
	t.Helper()
	l, e := projline.List(n)
	if e != api.OK {
		t.Fatal(n, e)
	}
	return l
}

func TestNormal(t *testing.T) { // P21.1
	for n := 1; n <= api.MaxLevel; n++ {
		reach := n
		if n > 24 {
			reach = 9
		}
		for c := -reach; c <= reach; c++ {
			for d := -reach; d <= reach; d++ {
				p, e := projline.Normal(n, c, d)
				if gcd(gcd(c, d), n) != 1 {
					if e != api.ErrCoprime || p != (api.ProjPoint{}) {
						t.Fatal(n, c, d, p, e)
					}
					continue
				}
				if e != api.OK || p != normal(n, c, d) {
					t.Fatal(n, c, d, p, e)
				}
			}
		}
	}
	r := rand.New(rand.NewSource(1))
	for range 2000 {
		n, c, d := 1+r.Intn(api.MaxLevel), r.Intn(2*top+1)-top, r.Intn(2*top+1)-top
		if gcd(gcd(c, d), n) != 1 {
			continue
		}
		if p, e := projline.Normal(n, c, d); e != api.OK || p != normal(n, c, d) {
			t.Fatal(n, c, d, p, e)
		}
	}
	for _, x := range []struct{ n, c, d, u, v, unit int }{
		{4, 3, 2, 1, 2, 3}, {1, 0, 0, 0, 0, 1}, {1, top, -top, 0, 0, 1}, {2, 0, 1, 0, 1, 1}, {7, 0, 3, 0, 1, 3}, {7, -top, 0, 1, 0, mod(-top, 7)},
		{4, 2, 3, 2, 1, 3}, {6, 2, 3, 2, 3, 1}, {6, 4, 3, 2, 3, 5}, {120, 60, 119, 60, 1, 119}, {120, 0, -1, 0, 1, 119},
	} {
		if p, e := projline.Normal(x.n, x.c, x.d); e != api.OK || p != (api.ProjPoint{U: x.u, V: x.v, Unit: x.unit}) {
			t.Error(x, p, e)
		}
	}
}

func TestUnits(t *testing.T) { // P21.1
	r := rand.New(rand.NewSource(2))
	for range 3000 {
		n, c, d := 1+r.Intn(api.MaxLevel), r.Intn(1000)-500, r.Intn(1000)-500
		s := r.Intn(2000) - 1000
		if gcd(gcd(c, d), n) != 1 || gcd(s, n) != 1 {
			continue
		}
		p, _ := projline.Normal(n, c, d)
		q, e := projline.Normal(n, s*c, s*d)
		if e != api.OK || p.U != q.U || p.V != q.V || mod(s*p.Unit-q.Unit, n) != 0 {
			t.Fatal(n, c, d, s, p, q, e)
		}
		for _, x := range []api.ProjPoint{p, q} {
			if x.Unit < 1 || x.Unit > n || gcd(x.Unit, n) != 1 {
				t.Fatal(n, c, d, s, x)
			}
		}
		if mod(p.Unit*p.U-c, n) != 0 || mod(p.Unit*p.V-d, n) != 0 {
			t.Fatal(n, c, d, p)
		}
	}
}

func TestPairErrors(t *testing.T) { // P21.1
	check := func(n, c, d int, want api.Errno) {
		t.Helper()
		if p, e := projline.Normal(n, c, d); e != want || p != (api.ProjPoint{}) {
			t.Error("Normal", n, c, d, p, e)
		}
		if i, e := projline.Index(n, c, d); e != want || i != 0 {
			t.Error("Index", n, c, d, i, e)
		}
	}
	for _, n := range noLevels {
		check(n, 1, 0, api.ErrRange)
		check(n, 0, 0, api.ErrRange)
		check(n, top+1, 2, api.ErrRange)
	}
	for _, x := range beyond {
		check(5, x, 1, api.ErrRange)
		check(5, 1, x, api.ErrRange)
		check(2, x, 2, api.ErrRange)
		check(1, x, x, api.ErrRange)
	}
	for _, x := range [][3]int{{2, 0, 0}, {120, 2, 4}, {6, 3, 9}, {6, -2, 2}, {5, 10, -15}, {4, top, -top}, {7, 7, -14}} {
		check(x[0], x[1], x[2], api.ErrCoprime)
	}
}

func TestList(t *testing.T) { // P21.1
	for n := 1; n <= api.MaxLevel; n++ {
		if n > 30 && n%7 != 0 && n != api.MaxLevel {
			continue
		}
		if l := list(t, n); !slices.Equal(l, points(n)) {
			t.Error(n, l)
		}
	}
	for n, want := range map[int][]api.ProjPoint{
		1: {{U: 0, V: 0, Unit: 1}},
		2: {{U: 0, V: 1, Unit: 1}, {U: 1, V: 0, Unit: 1}, {U: 1, V: 1, Unit: 1}},
		4: {{U: 0, V: 1, Unit: 1}, {U: 1, V: 0, Unit: 1}, {U: 1, V: 1, Unit: 1}, {U: 1, V: 2, Unit: 1}, {U: 1, V: 3, Unit: 1}, {U: 2, V: 1, Unit: 1}},
	} {
		if l := list(t, n); !slices.Equal(l, want) {
			t.Error(n, l)
		}
	}
	for _, n := range noLevels {
		if l, e := projline.List(n); e != api.ErrRange || len(l) != 0 {
			t.Error(n, l, e)
		}
	}
}

func TestIndex(t *testing.T) { // P21.1
	for n := 1; n <= api.MaxLevel; n++ {
		l := list(t, n)
		for i, p := range l {
			if j, e := projline.Index(n, p.U, p.V); e != api.OK || j != i {
				t.Fatal(n, p, j, e)
			}
		}
	}
	r := rand.New(rand.NewSource(3))
	for range 1000 {
		n, c, d := 1+r.Intn(api.MaxLevel), r.Intn(2*top+1)-top, r.Intn(2*top+1)-top
		if gcd(gcd(c, d), n) != 1 {
			continue
		}
		p := normal(n, c, d)
		if i, e := projline.Index(n, c, d); e != api.OK || list(t, n)[i] != (api.ProjPoint{U: p.U, V: p.V, Unit: 1}) {
			t.Fatal(n, c, d, i, e)
		}
	}
}

func TestCount(t *testing.T) { // P21.1, P21.2
	for n := 1; n <= api.MaxLevel; n++ {
		want := n
		for p, rest := 2, n; rest > 1; p++ {
			if rest%p == 0 {
				want += want / p
			}
			for rest%p == 0 {
				rest /= p
			}
		}
		if count, e := projline.Count(n); e != api.OK || count != want || count != len(list(t, n)) {
			t.Error(n, count, want, e)
		}
	}
	for _, n := range noLevels {
		if count, e := projline.Count(n); e != api.ErrRange || count != 0 {
			t.Error(n, count, e)
		}
	}
}

// random returns a matrix with a determinant that is prime to n.
func random(r *rand.Rand, n, size int) api.Mat2 {
	for {
		m := api.Mat2{A: r.Intn(2*size+1) - size, B: r.Intn(2*size+1) - size, C: r.Intn(2*size+1) - size, D: r.Intn(2*size+1) - size}
		if gcd(m.A*m.D-m.B*m.C, n) == 1 {
			return m
		}
	}
}

func TestAct(t *testing.T) { // P21.3
	r := rand.New(rand.NewSource(4))
	for range 1500 {
		n := 1 + r.Intn(api.MaxLevel)
		l := list(t, n)
		i := r.Intn(len(l))
		x, y := random(r, n, 1<<uint(1+r.Intn(15))), random(r, n, 1<<uint(1+r.Intn(14)))
		j, e := projline.Act(n, i, x)
		want := normal(n, l[i].U*x.A+l[i].V*x.C, l[i].U*x.B+l[i].V*x.D)
		if e != api.OK || l[j] != (api.ProjPoint{U: want.U, V: want.V, Unit: 1}) {
			t.Fatal(n, i, x, j, e)
		}
		product := api.Mat2{A: x.A*y.A + x.B*y.C, B: x.A*y.B + x.B*y.D, C: x.C*y.A + x.D*y.C, D: x.C*y.B + x.D*y.D}
		k, e := projline.Act(n, i, product)
		if step, f := projline.Act(n, j, y); e != api.OK || f != api.OK || step != k {
			t.Fatal(n, i, x, y, k, step, e, f)
		}
	}
	// Entries at the limits: the image is (3 top : 3 (top - 1)), and 3 is a unit.
	l := list(t, 119)
	i := slices.Index(l, api.ProjPoint{U: 1, V: 2, Unit: 1})
	want, _ := projline.Index(119, top, top-1)
	if j, e := projline.Act(119, i, api.Mat2{A: top, B: top - 1 - 2, C: top, D: top}); e != api.OK || j != must(t, 119, 3*top%119, (3*top-3)%119) || j != want {
		t.Error(j, want, e)
	}
	for _, m := range []api.Mat2{{}, {A: 2, B: 4, C: 1, D: 2}, {A: top, B: -top, C: -top, D: top}} {
		if j, e := projline.Act(1, 0, m); e != api.OK || j != 0 {
			t.Error(m, j, e)
		}
	}
}

// must is projline.Index, which must not fail.
func must(t *testing.T, n, c, d int) int {
	t.Helper()
	i, e := projline.Index(n, c, d)
	if e != api.OK {
		t.Fatal(n, c, d, e)
	}
	return i
}

func TestStabilizer(t *testing.T) { // P21.3
	for n := 1; n <= 30; n++ {
		zero := must(t, n, 0, 1)
		for a := -3; a <= 3; a++ {
			for c := -12; c <= 12; c++ {
				if gcd(a, c) != 1 {
					continue
				}
				for d := -12; d <= 12; d++ {
					if c == 0 && a*d != 1 || c != 0 && (a*d-1)%c != 0 {
						continue
					}
					m := api.Mat2{A: a, C: c, D: d}
					if c != 0 {
						m.B = (a*d - 1) / c
					}
					if i, e := projline.Act(n, zero, m); e != api.OK || (i == zero) != (c%n == 0) {
						t.Fatal(n, m, i, e)
					}
				}
			}
		}
	}
}

func TestActErrors(t *testing.T) { // P21.3
	unit := api.Mat2{A: 1, D: 1}
	check := func(n, i int, m api.Mat2, want api.Errno) {
		t.Helper()
		if j, e := projline.Act(n, i, m); e != want || j != 0 {
			t.Error(n, i, m, j, e)
		}
	}
	for _, n := range noLevels {
		check(n, 0, unit, api.ErrRange)
		check(n, -1, api.Mat2{}, api.ErrRange)
	}
	for n := 1; n <= api.MaxLevel; n++ {
		count, _ := projline.Count(n)
		check(n, count, unit, api.ErrRange)
		check(n, -1, unit, api.ErrRange)
		check(n, count, api.Mat2{}, api.ErrRange)
		if i, e := projline.Act(n, count-1, unit); e != api.OK || i != count-1 {
			t.Error(n, i, e)
		}
	}
	check(6, math.MaxInt, unit, api.ErrRange)
	check(6, math.MinInt, unit, api.ErrRange)
	for _, x := range beyond {
		for _, m := range []api.Mat2{{A: x, D: 1}, {A: 1, B: x, D: 1}, {A: 1, C: x, D: 1}, {A: 1, D: x}, {A: x, B: x, C: x, D: x}, {B: x}} {
			check(1, 0, m, api.ErrRange)
			check(6, 3, m, api.ErrRange)
		}
	}
	for _, m := range []api.Mat2{{}, {A: 2, D: 1}, {A: 3, D: 1}, {A: 1, B: 1, C: 1, D: 1}, {A: top, B: 0, C: 1, D: top}, {A: 1, B: 3, D: -6}} {
		check(6, 0, m, api.ErrCoprime)
	}
}

// lift follows the definition of the lift.
func lift(n int, p api.ProjPoint) api.Mat2 {
	if p.U == 0 {
		return api.Mat2{A: 1, D: 1}
	}
	d := p.V
	for gcd(d, p.U) != 1 {
		d += n
	}
	a := 0
	for (a*d-1)%p.U != 0 {
		a++
	}
	return api.Mat2{A: a, B: (a*d - 1) / p.U, C: p.U, D: d}
}

func TestLift(t *testing.T) { // P21.4
	for n := 1; n <= api.MaxLevel; n++ {
		zero := must(t, n, 0, 1)
		for i, p := range list(t, n) {
			m, e := projline.Lift(n, i)
			if e != api.OK || m != lift(n, p) || sl2.Check(m) != api.OK {
				t.Fatal(n, i, m, e)
			}
			if p.U != 0 && (m.A < 0 || m.A >= p.U) || mod(m.C-p.U, n) != 0 || mod(m.D-p.V, n) != 0 {
				t.Fatal(n, i, p, m)
			}
			if j, e := projline.Act(n, zero, m); e != api.OK || j != i {
				t.Fatal(n, i, m, j, e)
			}
		}
	}
	if m, e := projline.Lift(4, 5); e != api.OK || m != (api.Mat2{A: 1, C: 2, D: 1}) {
		t.Error(m, e)
	}
	if m, e := projline.Lift(1, 0); e != api.OK || m != (api.Mat2{A: 1, D: 1}) {
		t.Error(m, e)
	}
	if m, e := projline.Lift(4, 1); e != api.OK || m != (api.Mat2{B: -1, C: 1}) {
		t.Error(m, e)
	}
	for _, n := range noLevels {
		if m, e := projline.Lift(n, 0); e != api.ErrRange || m != (api.Mat2{}) {
			t.Error(n, m, e)
		}
	}
	for _, x := range [][2]int{{1, 1}, {1, -1}, {4, 6}, {120, 288}, {120, -1}, {7, math.MaxInt}, {7, math.MinInt}} {
		if m, e := projline.Lift(x[0], x[1]); e != api.ErrRange || m != (api.Mat2{}) {
			t.Error(x, m, e)
		}
	}
}

// Nothing of a list is used again by a later call.
func TestMemory(t *testing.T) { // R3
	l := list(t, 12)
	kept := slices.Clone(l)
	whole := l[:cap(l)]
	for i := range whole {
		whole[i] = api.ProjPoint{U: -1, V: -1, Unit: -1}
	}
	if again := list(t, 12); !slices.Equal(again, kept) {
		t.Error(again)
	}
}
