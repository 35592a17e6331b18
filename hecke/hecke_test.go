package hecke_test

import (
	"math"
	"math/rand"
	"reflect"
	"slices"
	"testing"

	"halfplane/api"
	"halfplane/boundary"
	"halfplane/hecke"
	"halfplane/heilbronn"
	"halfplane/matrix"
	"halfplane/rational"
	"halfplane/subspace"
	"halfplane/symbols"
	"halfplane/trace"
)

// operator is hecke.Operator, which must not fail.
func operator(t *testing.T, m *symbols.Module, n int) api.Matrix {
	t.Helper()
	a, e := hecke.Operator(m, n)
	if e != api.OK || a.Rows != m.Dim() || a.Cols != m.Dim() || !matrix.Valid(a) {
		t.Fatalf("Operator(%v, %d): %v, %d", m.Spec(), n, a, e)
	}
	return a
}

func TestOperator(t *testing.T) { // P45.1
	for _, m := range modules(t) {
		for _, n := range []int{1, 2, 3, 4, 5, 6, 11, 12} {
			l, _ := heilbronn.Merel(n)
			if a, want := operator(t, m, n), byApply(t, m, l); !same(a, want) {
				t.Errorf("Operator(%v, %d): %v, want %v", m.Spec(), n, a, want)
			}
		}
	}
	m := module(t, spec(3, 3, -3))
	for _, n := range []int{127, api.MaxHecke} {
		l, _ := heilbronn.Merel(n)
		if a, want := operator(t, m, n), byApply(t, m, l); !same(a, want) {
			t.Errorf("Operator(%v, %d): %v, want %v", m.Spec(), n, a, want)
		}
	}
}

func TestOperatorErrors(t *testing.T) { // P45.1
	for _, n := range []int{math.MinInt, -2, -1, 0, api.MaxHecke + 1, math.MaxInt} {
		a, e := hecke.Operator(nil, n)
		expectError(t, "Operator", a, e, api.ErrNil)
		for _, m := range modules(t) {
			a, e = hecke.Operator(m, n)
			expectError(t, "Operator", a, e, api.ErrRange)
		}
	}
	a, e := hecke.Operator(nil, 1)
	expectError(t, "Operator", a, e, api.ErrNil)
}

func TestBy(t *testing.T) { // P45.1: any integer matrices
	r := rand.New(rand.NewSource(451))
	entry := func(limit int) int { return r.Intn(2*limit+1) - limit }
	for _, m := range modules(t) {
		n := m.Spec().Level
		random := []api.Mat2{{A: 1, D: 1}, {A: 1, D: 1}}
		for range 12 {
			random = append(random, api.Mat2{A: entry(5), B: entry(5), C: entry(5), D: entry(5)}, api.Mat2{A: entry(top), B: entry(top), C: entry(top), D: entry(top)})
		}
		for _, l := range [][]api.Mat2{
			nil, {}, {{}}, {{A: 2, B: 4, C: 1, D: 2}}, {{A: 3, D: 3}}, {{A: -1, D: -1}}, {{B: -1, C: 1}, {A: 1, D: 1}}, {{A: n, D: 1}, {A: 1, D: n}}, {{A: top, B: -top, C: -top, D: top}, {A: top, B: top - 1, C: -top, D: 1 - top}}, random,
		} {
			kept := slices.Clone(l)
			if a, e := hecke.By(m, l); e != api.OK || !same(a, byApply(t, m, l)) {
				t.Errorf("By(%v, %v): %v, %d", m.Spec(), l, a, e)
			}
			if !slices.Equal(l, kept) {
				t.Fatal("the list was changed")
			}
		}
	}
}

func TestByErrors(t *testing.T) { // P45.1
	m := module(t, spec(2, 4, 1))
	for _, x := range []int{math.MinInt, -top - 1, top + 1, math.MaxInt} {
		for _, g := range []api.Mat2{{A: x}, {B: x}, {C: x}, {D: x}} {
			for _, l := range [][]api.Mat2{{g}, {{A: 1, D: 1}, g}, {{A: 1, D: 1}, g, {}}} {
				a, e := hecke.By(m, l)
				expectError(t, "By", a, e, api.ErrRange)
				a, e = hecke.By(nil, l)
				expectError(t, "By", a, e, api.ErrNil)
			}
			a, e := hecke.By(m, append(make([]api.Mat2, 4096), g))
			expectError(t, "By", a, e, api.ErrLarge)
		}
	}
	a, e := hecke.By(nil, nil)
	expectError(t, "By", a, e, api.ErrNil)
	a, e = hecke.By(nil, make([]api.Mat2, 5000))
	expectError(t, "By", a, e, api.ErrNil)
	// 4096 matrices are not too many.
	l := slices.Repeat([]api.Mat2{{A: 1, D: 1}}, 4096)
	unit, _ := matrix.Identity(m.Dim())
	want, _ := matrix.Scale(unit, rational.Of(4096))
	if a, e := hecke.By(m, l); e != api.OK || !same(a, want) {
		t.Errorf("By of 4096 matrices: %v, %d", a, e)
	}
	a, e = hecke.By(m, append(l, l[0]))
	expectError(t, "By", a, e, api.ErrLarge)
}

func TestOn(t *testing.T) { // P45.1
	r := rand.New(rand.NewSource(4510))
	for _, m := range modules(t) {
		whole, _ := subspace.Whole(m.Dim())
		zero, _ := subspace.Zero(m.Dim())
		cuspidal, _ := boundary.Cuspidal(m)
		plus, _ := boundary.Signed(m, 1)
		minus, _ := boundary.Signed(m, -1)
		for _, n := range []int{1, 2, 3, 4, 7} {
			a := operator(t, m, n)
			for i, s := range []api.Space{whole, zero, cuspidal, plus, minus} {
				for _, s := range []api.Space{s, disguise(r, s)} {
					on, e := hecke.On(m, n, s)
					if e != api.OK || on.Rows != s.Basis.Rows || on.Cols != s.Basis.Rows {
						t.Fatalf("On(%v, %d) of space %d: %v, %d", m.Spec(), n, i, on, e)
					}
					// The images of the basis are the combinations of it that On says.
					if !same(product(t, s.Basis, a), product(t, on, s.Basis)) {
						t.Errorf("On(%v, %d) of space %d: %v", m.Spec(), n, i, on)
					}
				}
			}
		}
	}
}

func TestOnErrors(t *testing.T) { // P45.1
	m := module(t, spec(11, 2, 1))
	one := func(x ...int) api.Space {
		s := api.Space{Dim: len(x), Basis: api.Matrix{Rows: 1, Cols: len(x)}}
		for _, n := range x {
			s.Basis.A = append(s.Basis.A, rational.Of(n))
		}
		return s
	}
	whole, _ := subspace.Whole(2)
	for _, x := range []struct {
		s    api.Space
		want api.Errno
	}{
		{one(2, 0, 0), api.ErrForm}, {one(0, 0, 0), api.ErrForm}, {api.Space{Dim: 3}, api.ErrForm}, {api.Space{Dim: 3, Basis: api.Matrix{Rows: 1, Cols: 3}}, api.ErrForm}, {one(2, 0), api.ErrForm},
		{api.Space{}, api.ErrShape}, {one(1, 0), api.ErrShape}, {whole, api.ErrShape}, {one(0, 0, 1, 0), api.ErrShape}, {one(1, 0, 0), api.ErrInvariant},
	} {
		a, e := hecke.On(m, 2, x.s)
		expectError(t, "On", a, e, x.want)
		for _, n := range []int{math.MinInt, 0, api.MaxHecke + 1} {
			a, e = hecke.On(m, n, x.s)
			expectError(t, "On", a, e, api.ErrRange)
			a, e = hecke.On(nil, n, x.s)
			expectError(t, "On", a, e, api.ErrNil)
		}
	}
	// Under T_1 every subspace is invariant.
	if a, e := hecke.On(m, 1, one(1, 0, 0)); e != api.OK || !same(a, number(1)) {
		t.Errorf("On(1): %v, %d", a, e)
	}
}

func TestLists(t *testing.T) { // P45.2
	r := rand.New(rand.NewSource(452))
	for _, m := range modules(t) {
		unit, _ := matrix.Identity(m.Dim())
		if a := operator(t, m, 1); !same(a, unit) {
			t.Errorf("%v: T_1 is %v", m.Spec(), a)
		}
		for _, n := range []int{1, 2, 3, 4, 5, 6, 7, 9, 12, 13} {
			want := operator(t, m, n)
			for i, l := range lists(t, n) {
				for k := range l {
					if r.Intn(3) == 0 {
						l[k] = api.Mat2{A: -l[k].A, B: -l[k].B, C: -l[k].C, D: -l[k].D}
					}
				}
				r.Shuffle(len(l), func(i, j int) { l[i], l[j] = l[j], l[i] })
				// From one cusp to another one and back.
				l = append(l, api.Mat2{A: 2 * n, B: 1, C: n, D: 1}, api.Mat2{A: 1, B: -2 * n, C: 1, D: -n})
				if !heilbronn.Satisfies(n, l) {
					t.Fatalf("list %d for %d", i, n)
				}
				if a, e := hecke.By(m, l); e != api.OK || !same(a, want) {
					t.Errorf("%v: list %d for T_%d: %v, %d; want %v", m.Spec(), i, n, a, e, want)
				}
			}
		}
	}
}

func TestProducts(t *testing.T) { // P45.3
	for _, m := range modules(t) {
		s := m.Spec()
		for _, x := range [][2]int{{2, 2}, {2, 3}, {2, 4}, {3, 3}, {3, 4}, {4, 6}, {5, 5}, {6, 6}, {2, 7}, {4, 4}, {6, 10}, {9, 3}, {8, 12}} {
			want, _ := matrix.New(m.Dim(), m.Dim())
			for d := 1; d <= x[0]; d++ {
				if x[0]%d == 0 && x[1]%d == 0 {
					factor, _ := rational.Pow(rational.Of(d), s.Weight-1)
					want = sum(t, want, rational.Mul(rational.Of(chi(s, d)), factor), operator(t, m, x[0]*x[1]/d/d))
				}
			}
			first, second := operator(t, m, x[0]), operator(t, m, x[1])
			if !same(product(t, first, second), want) || !same(product(t, second, first), want) {
				t.Errorf("%v: T_%d T_%d", s, x[0], x[1])
			}
		}
	}
}

func TestInvolution(t *testing.T) { // P45.4
	for _, m := range modules(t) {
		star, e := boundary.Star(m)
		cuspidal, f := boundary.Cuspidal(m)
		if e != api.OK || f != api.OK {
			t.Fatal(m.Spec(), e, f)
		}
		for _, n := range []int{2, 3, 4, 5, 6, 8, 11} {
			a := operator(t, m, n)
			if !same(product(t, a, star), product(t, star, a)) {
				t.Errorf("%v: T_%d does not commute with the star involution", m.Spec(), n)
			}
			image, _ := subspace.Image(cuspidal, a)
			if within, e := subspace.Within(image, cuspidal); e != api.OK || !within {
				t.Errorf("%v: T_%d does not preserve the cuspidal part", m.Spec(), n)
			}
		}
	}
}

func TestTraces(t *testing.T) { // P45.1: each cusp form occurs twice in the cuspidal part
	count := 0
	for _, m := range modules(t) {
		cuspidal, _ := boundary.Cuspidal(m)
		for n := 1; n <= 13; n++ {
			want, e := trace.Trace(m.Spec(), n)
			if e != api.OK {
				continue
			}
			count++
			on, e := hecke.On(m, n, cuspidal)
			if e != api.OK {
				t.Fatalf("On(%v, %d): %d", m.Spec(), n, e)
			}
			if got, _ := matrix.Trace(on); rational.Cmp(got, rational.Mul(rational.Of(2), rational.Whole(want))) != 0 {
				t.Errorf("%v: T_%d has the trace %s, that of cusp forms is %v", m.Spec(), n, rational.Format(got), want)
			}
		}
	}
	if count < 150 {
		t.Errorf("only %d traces", count)
	}
}

func TestExamples(t *testing.T) { // P45.1
	if a := operator(t, module(t, spec(1, 4, 1)), 2); !same(a, number(9)) {
		t.Error(a)
	}
	if a := operator(t, module(t, spec(2, 2, 1)), 3); !same(a, number(4)) {
		t.Error(a)
	}
	// No symbols of level 1 and weight 2: the matrices are empty.
	if a := operator(t, module(t, spec(1, 2, 1)), 5); a.Rows != 0 || len(a.A) != 0 {
		t.Error(a)
	}
	// The coefficients of Delta and of the forms of level 11 and 14, which are eigenvalues
	// on the parts of both signs.
	for _, x := range []struct {
		s    api.Spec
		want []int
	}{
		{spec(1, 12, 1), []int{1, -24, 252, -1472, 4830, -6048, -16744, 84480, -113643, -115920, 534612}},
		{spec(11, 2, 1), []int{1, -2, -1, 2, 1, 2, -2, 0, -2, -2, 1, -2, 4}},
		{spec(14, 2, 1), []int{1, -1, -2, 1, 0, 2, 1, -1, 1, 0, 0, -2, -4}},
	} {
		m := module(t, x.s)
		for _, sign := range []int{1, -1} {
			part, _ := boundary.Signed(m, sign)
			for i, want := range x.want {
				if a, e := hecke.On(m, i+1, part); e != api.OK || !same(a, number(want)) {
					t.Errorf("On(%v, %d): %v, %d; want %d", x.s, i+1, a, e, want)
				}
			}
		}
	}
}

func TestMemory(t *testing.T) { // R3, R4
	m := module(t, spec(12, 4, 12))
	cuspidal, _ := boundary.Cuspidal(m)
	kept, _ := boundary.Cuspidal(m)
	l, _ := heilbronn.Merel(3)
	unit := []api.Mat2{{A: 1, D: 1}}
	for name, f := range map[string]func() []api.Rat{
		"Operator":   func() []api.Rat { a, _ := hecke.Operator(m, 2); return a.A },
		"Operator 1": func() []api.Rat { a, _ := hecke.Operator(m, 1); return a.A },
		"By":         func() []api.Rat { a, _ := hecke.By(m, l); return a.A },
		"By 1":       func() []api.Rat { a, _ := hecke.By(m, unit); return a.A },
		"By nothing": func() []api.Rat { a, _ := hecke.By(m, nil); return a.A },
		"On":         func() []api.Rat { a, _ := hecke.On(m, 5, cuspidal); return a.A },
		"On 1":       func() []api.Rat { a, _ := hecke.On(m, 1, cuspidal); return a.A },
	} {
		got, want := f(), f()
		for i := range got {
			spoil(got[i])
			if i+1 < len(got) && !sameRats(got[i+1:i+2], want[i+1:i+2]) {
				t.Fatalf("%s: fractions %d and %d share memory", name, i, i+1)
			}
		}
		if !sameRats(f(), want) {
			t.Errorf("%s: the result is kept", name)
		}
	}
	if !reflect.DeepEqual(cuspidal, kept) {
		t.Error("a space was changed")
	}
}
