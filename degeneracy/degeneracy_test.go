package degeneracy_test

import (
	"math"
	"math/rand"
	"testing"

	"halfplane/api"
	"halfplane/arith"
	"halfplane/boundary"
	"halfplane/degeneracy"
	"halfplane/dimension"
	"halfplane/hecke"
	"halfplane/matrix"
	"halfplane/paths"
	"halfplane/rational"
	"halfplane/subspace"
	"halfplane/symbols"
)

// down is degeneracy.Down, which must not fail.
func down(t *testing.T, m, l *symbols.Module, k int) api.Matrix {
	t.Helper()
	a, e := degeneracy.Down(m, l, k)
	if e != api.OK || a.Rows != m.Dim() || a.Cols != l.Dim() || !matrix.Valid(a) {
		t.Fatalf("Down(%v, %v, %d): %v, %d", m.Spec(), l.Spec(), k, a, e)
	}
	return a
}

// divisors returns the divisors of a number.
func divisors(n int) []int {
	l, _ := arith.Divisors(n)
	return l
}

// imageOf returns the class, in l, of the image of a path under (k 0; 0 1).
func imageOf(t *testing.T, l *symbols.Module, p api.Path, k int) []api.Rat {
	t.Helper()
	image, e := paths.Translate(p, api.Mat2{A: k, D: 1})
	if e != api.OK {
		t.Fatalf("Translate(%v, %d): %d", p, k, e)
	}
	class, e := paths.Coordinates(l, image)
	if e != api.OK {
		t.Fatalf("Coordinates(%v, %v): %d", l.Spec(), image, e)
	}
	return class
}

func TestDown(t *testing.T) { // P47.1: for the paths of the free symbols and for others
	r := rand.New(rand.NewSource(471))
	for _, x := range pairs(t) {
		for _, k := range divisors(x.m.Spec().Level / x.l.Spec().Level) {
			a := down(t, x.m, x.l, k)
			for i, n := range x.m.Free() {
				p, _ := paths.Symbol(x.m, n)
				if row, _ := matrix.Row(a, i); !sameRats(row, imageOf(t, x.l, p, k)) {
					t.Errorf("Down(%v, %v, %d): row %d is %v", x.m.Spec(), x.l.Spec(), k, i, row)
				}
			}
			for range 3 {
				p := randomPath(r, x.m.Spec())
				class, _ := paths.Coordinates(x.m, p)
				if got, e := matrix.Apply(class, a); e != api.OK || !sameRats(got, imageOf(t, x.l, p, k)) {
					t.Errorf("Down(%v, %v, %d) takes %v to %v", x.m.Spec(), x.l.Spec(), k, p, got)
				}
			}
		}
	}
}

func TestDownErrors(t *testing.T) { // P47.1
	m := module(t, spec(24, 4, 1))
	for _, l := range []*symbols.Module{
		module(t, spec(5, 4, 1)), module(t, spec(48, 4, 1)), module(t, spec(16, 4, 1)), module(t, spec(12, 2, 1)), module(t, spec(24, 2, 1)), module(t, spec(12, 4, 12)), module(t, spec(24, 4, 8)), module(t, spec(12, 3, -4)), new(symbols.Module),
	} {
		for _, k := range []int{math.MinInt, 0, 1, 2, 7} {
			a, e := degeneracy.Down(m, l, k)
			expectError(t, "Down", a, e, api.ErrLevel)
		}
	}
	for _, level := range []int{1, 2, 3, 4, 6, 8, 12, 24} {
		l := module(t, spec(level, 4, 1))
		for _, k := range []int{math.MinInt, -24, -2, -1, 0, 24/level + 1, 5, 16, 48, math.MaxInt} {
			a, e := degeneracy.Down(m, l, k)
			expectError(t, "Down", a, e, api.ErrRange)
		}
	}
	for _, k := range []int{0, 1} {
		a, e := degeneracy.Down(nil, nil, k)
		expectError(t, "Down", a, e, api.ErrNil)
		a, e = degeneracy.Down(m, nil, k)
		expectError(t, "Down", a, e, api.ErrNil)
		a, e = degeneracy.Down(nil, m, k)
		expectError(t, "Down", a, e, api.ErrNil)
	}
}

func TestCommute(t *testing.T) { // P47.2
	for _, x := range pairs(t) {
		above, _ := boundary.Star(x.m)
		below, _ := boundary.Star(x.l)
		level := x.m.Spec().Level
		for _, k := range divisors(level / x.l.Spec().Level) {
			a := down(t, x.m, x.l, k)
			if !same(product(t, above, a), product(t, a, below)) {
				t.Errorf("Down(%v, %v, %d) and the star involution", x.m.Spec(), x.l.Spec(), k)
			}
			for _, n := range []int{2, 3, 5, 7, 9, 10} {
				if arith.Gcd(n, level) != 1 {
					continue
				}
				first, _ := hecke.Operator(x.m, n)
				second, _ := hecke.Operator(x.l, n)
				if !same(product(t, first, a), product(t, a, second)) {
					t.Errorf("Down(%v, %v, %d) and T_%d", x.m.Spec(), x.l.Spec(), k, n)
				}
			}
		}
	}
}

func TestComposition(t *testing.T) { // P47.2
	for _, x := range []struct{ m, l, last api.Spec }{
		{spec(24, 4, 1), spec(12, 4, 1), spec(2, 4, 1)}, {spec(8, 5, -4), spec(4, 5, -4), spec(4, 5, -4)}, {spec(36, 2, 12), spec(12, 2, 12), spec(12, 2, 12)}, {spec(44, 2, 1), spec(22, 2, 1), spec(11, 2, 1)}, {spec(8, 12, 1), spec(4, 12, 1), spec(1, 12, 1)}, {spec(18, 5, -3), spec(9, 5, -3), spec(3, 5, -3)},
	} {
		m, l, last := module(t, x.m), module(t, x.l), module(t, x.last)
		for _, k := range divisors(x.m.Level / x.l.Level) {
			for _, u := range divisors(x.l.Level / x.last.Level) {
				if !same(product(t, down(t, m, l, k), down(t, l, last, u)), down(t, m, last, k*u)) {
					t.Errorf("%v to %v to %v by %d and %d", x.m, x.l, x.last, k, u)
				}
			}
		}
	}
	for _, s := range spaces() {
		unit, _ := matrix.Identity(module(t, s).Dim())
		if a := down(t, module(t, s), module(t, s), 1); !same(a, unit) {
			t.Errorf("%v to itself: %v", s, a)
		}
	}
}

// newPart returns the new part of a subspace by its definition.
func newPart(t *testing.T, m *symbols.Module, s api.Space) api.Space {
	t.Helper()
	level := m.Spec().Level
	factors, _ := arith.Factor(level)
	for _, f := range factors {
		p := f.Prime
		if level/p%m.Spec().Disc != 0 {
			continue
		}
		l := module(t, spec(level/p, m.Spec().Weight, m.Spec().Disc))
		for _, k := range []int{1, p} {
			zero, _ := subspace.Zero(l.Dim())
			kernel, e := subspace.Preimage(zero, down(t, m, l, k))
			if e != api.OK {
				t.Fatal(e)
			}
			s, e = subspace.Intersect(s, kernel)
			if e != api.OK {
				t.Fatal(e)
			}
		}
	}
	return s
}

func TestNew(t *testing.T) { // P47.1, P47.3
	for _, s := range spaces() {
		m := module(t, s)
		cuspidal, _ := boundary.Cuspidal(m)
		want := newPart(t, m, cuspidal)
		x, e := degeneracy.New(m)
		if e != api.OK || x.Dim != m.Dim() || !same(x.Basis, want.Basis) || subspace.Check(x) != api.OK {
			t.Fatalf("New(%v): %v, %d; want %v", s, x, e, want)
		}
		if count, _ := dimension.New(s); x.Basis.Rows != 2*count {
			t.Errorf("New(%v) has the dimension %d, and there are %d new forms", s, x.Basis.Rows, count)
		}
		for n := 1; n <= 12; n++ {
			if _, e := hecke.On(m, n, x); e != api.OK {
				t.Errorf("New(%v) and T_%d: %d", s, n, e)
			}
		}
	}
}

func TestNewSigned(t *testing.T) { // P47.1, P47.3
	for _, s := range spaces() {
		m := module(t, s)
		star, _ := boundary.Star(m)
		whole, _ := degeneracy.New(m)
		count, _ := dimension.New(s)
		for _, sign := range []int{1, -1} {
			x, e := degeneracy.NewSigned(m, sign)
			if e != api.OK || x.Dim != m.Dim() || x.Basis.Rows != count || x.Basis.Cols != m.Dim() || subspace.Check(x) != api.OK {
				t.Fatalf("NewSigned(%v, %d): %v, %d; want the dimension %d", s, sign, x, e, count)
			}
			if within, e := subspace.Within(x, whole); e != api.OK || !within {
				t.Errorf("NewSigned(%v, %d) is not in the new part", s, sign)
			}
			multiple, _ := matrix.Scale(x.Basis, rational.Of(sign))
			if !same(product(t, x.Basis, star), multiple) {
				t.Errorf("NewSigned(%v, %d) and the star involution", s, sign)
			}
			for n := 1; n <= 8; n++ {
				if _, e := hecke.On(m, n, x); e != api.OK {
					t.Errorf("NewSigned(%v, %d) and T_%d: %d", s, sign, n, e)
				}
			}
		}
		for _, sign := range []int{0, 2, -2, math.MinInt, math.MaxInt} {
			x, e := degeneracy.NewSigned(m, sign)
			expectError(t, "NewSigned", x, e, api.ErrRange)
		}
	}
}

func TestDimensions(t *testing.T) { // P47.3
	for level := 1; level <= 64; level++ {
		for weight := 2; weight <= 12; weight++ {
			for disc := -level; disc <= level; disc++ {
				s := spec(level, weight, disc)
				if dimension.Check(s) != api.OK || level*weight > 128 {
					continue
				}
				count, _ := dimension.New(s)
				if x, e := degeneracy.New(module(t, s)); e != api.OK || x.Basis.Rows != 2*count {
					t.Errorf("New(%v) has the dimension %d, and there are %d new forms; %d", s, x.Basis.Rows, count, e)
				}
			}
		}
	}
}

func TestNil(t *testing.T) { // P47.1, R5
	x, e := degeneracy.New(nil)
	expectError(t, "New", x, e, api.ErrNil)
	for _, sign := range []int{0, 1} {
		x, e = degeneracy.NewSigned(nil, sign)
		expectError(t, "NewSigned", x, e, api.ErrNil)
	}
}

func TestExamples(t *testing.T) { // P47.1
	m, l := module(t, spec(2, 4, 1)), module(t, spec(1, 4, 1))
	for _, x := range []struct {
		poly [3]int
		k    int
		want int
	}{{[3]int{0, 0, 1}, 1, 1}, {[3]int{0, 0, 1}, 2, 1}, {[3]int{1, 0, 0}, 1, -1}, {[3]int{1, 0, 0}, 2, -4}} {
		p := api.Path{From: api.Cusp{P: 0, Q: 1}, To: api.Cusp{P: 1, Q: 0}}
		for _, c := range x.poly {
			p.Poly = append(p.Poly, rational.Of(c))
		}
		class, _ := paths.Coordinates(m, p)
		if got, e := matrix.Apply(class, down(t, m, l, x.k)); e != api.OK || !sameRats(got, []api.Rat{rational.Of(x.want)}) {
			t.Errorf("%v: %v, %d", x, got, e)
		}
	}
	m = module(t, spec(11, 2, 1))
	cuspidal, _ := boundary.Cuspidal(m)
	if x, e := degeneracy.New(m); e != api.OK || x.Basis.Rows != 2 || !same(x.Basis, cuspidal.Basis) {
		t.Errorf("New of level 11: %v, %d", x, e)
	}
	// All forms of level 22 are old ones, and so are most of level 33.
	if x, e := degeneracy.New(module(t, spec(22, 2, 1))); e != api.OK || x.Dim != 7 || x.Basis.Rows != 0 || x.Basis.Cols != 7 {
		t.Errorf("New of level 22: %v, %d", x, e)
	}
	m = module(t, spec(33, 2, 1))
	x, e := degeneracy.NewSigned(m, 1)
	if a, f := hecke.On(m, 2, x); e != api.OK || f != api.OK || !sameRats(a.A, []api.Rat{rational.Of(1)}) {
		t.Errorf("T_2 on the form of level 33: %v, %d, %d", a, e, f)
	}
	if x, e := degeneracy.New(module(t, spec(1, 2, 1))); e != api.OK || x.Dim != 0 || x.Basis.Rows != 0 {
		t.Errorf("New of level 1: %v, %d", x, e)
	}
}

func TestMemory(t *testing.T) { // R3, R4
	m, l := module(t, spec(24, 4, 1)), module(t, spec(12, 4, 1))
	one := module(t, spec(1, 24, 1))
	for name, f := range map[string]func() []api.Rat{
		"Down":              func() []api.Rat { a, _ := degeneracy.Down(m, l, 2); return a.A },
		"Down to itself":    func() []api.Rat { a, _ := degeneracy.Down(m, m, 1); return a.A },
		"New":               func() []api.Rat { x, _ := degeneracy.New(m); return x.Basis.A },
		"NewSigned":         func() []api.Rat { x, _ := degeneracy.NewSigned(m, -1); return x.Basis.A },
		"New of level 1":    func() []api.Rat { x, _ := degeneracy.New(one); return x.Basis.A },
		"Signed of level 1": func() []api.Rat { x, _ := degeneracy.NewSigned(one, 1); return x.Basis.A },
	} {
		got, want := f(), f()
		if len(want) == 0 {
			t.Fatalf("%s is empty", name)
		}
		for i := range got {
			spoil(got[i])
			if i+1 < len(got) && !sameRats(got[i+1:i+2], want[i+1:i+2]) {
				t.Fatalf("%s: fractions %d and %d share memory", name, i, i+1)
			}
		}
		if !sameRats(f(), want) {
			t.Errorf("%s: the result is kept", name)
		}
	}
}
