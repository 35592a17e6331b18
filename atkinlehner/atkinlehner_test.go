package atkinlehner_test

import (
	"math"
	"math/rand"
	"reflect"
	"testing"

	"halfplane/api"
	"halfplane/arith"
	"halfplane/atkinlehner"
	"halfplane/boundary"
	"halfplane/cusps"
	"halfplane/degeneracy"
	"halfplane/hecke"
	"halfplane/matrix"
	"halfplane/paths"
	"halfplane/rational"
	"halfplane/subspace"
	"halfplane/symbols"
	"halfplane/trace"
)

// operator is atkinlehner.Operator, which must not fail.
func operator(t *testing.T, m *symbols.Module, q int) api.Matrix {
	t.Helper()
	a, e := atkinlehner.Operator(m, q)
	if e != api.OK || a.Rows != m.Dim() || a.Cols != m.Dim() || !matrix.Valid(a) {
		t.Fatalf("Operator(%v, %d): %v, %d", m.Spec(), q, a, e)
	}
	return a
}

// classOf returns the class of the image of a path under a matrix.
func classOf(t *testing.T, m *symbols.Module, p api.Path, g api.Mat2) []api.Rat {
	t.Helper()
	image, e := paths.Translate(p, g)
	if e != api.OK {
		t.Fatalf("Translate(%v, %v): %d", p, g, e)
	}
	class, e := paths.Coordinates(m, image)
	if e != api.OK {
		t.Fatalf("Coordinates(%v, %v): %d", m.Spec(), image, e)
	}
	return class
}

func TestOperator(t *testing.T) { // P48.1
	for _, m := range modules(t) {
		for _, q := range exact(m.Spec().Level) {
			w, e := cusps.AtkinLehner(m.Spec().Level, q)
			if e != api.OK {
				t.Fatal(m.Spec(), q, e)
			}
			a := operator(t, m, q)
			for i, n := range m.Free() {
				p, _ := paths.Symbol(m, n)
				if row, _ := matrix.Row(a, i); !sameRats(row, classOf(t, m, p, w)) {
					t.Errorf("Operator(%v, %d): row %d is %v", m.Spec(), q, i, row)
				}
			}
		}
	}
}

func TestErrors(t *testing.T) { // P48.1
	no := line(2, 0)
	// check asks all functions for an error that comes before those of a space and a sign.
	check := func(m *symbols.Module, q int, want api.Errno) {
		t.Helper()
		a, e := atkinlehner.Operator(m, q)
		expectError(t, "Operator", a, e, want)
		n, e := atkinlehner.Sign(m, q, no)
		expectError(t, "Sign", n, e, want)
		s, e := atkinlehner.Split(m, q, no, 0)
		expectError(t, "Split", s, e, want)
	}
	for _, q := range []int{math.MinInt, 0, 1, 5} {
		check(nil, q, api.ErrNil)
		for _, s := range []api.Spec{spec(5, 2, 5), spec(12, 4, 12), spec(3, 3, -3), spec(24, 2, 24)} {
			check(module(t, s), q, api.ErrDisc)
		}
		check(new(symbols.Module), q, api.ErrDisc)
	}
	for level := 1; level <= 36; level++ {
		m := module(t, spec(level, 2, 1))
		for q := -2; q <= 2*level; q++ {
			if q < 1 || level%q != 0 {
				check(m, q, api.ErrRange)
			} else if arith.Gcd(q, level/q) != 1 {
				check(m, q, api.ErrCoprime)
			}
		}
		check(m, math.MinInt, api.ErrRange)
		check(m, math.MaxInt, api.ErrRange)
	}
}

func TestSpaceErrors(t *testing.T) { // P48.1
	m := module(t, spec(37, 2, 1))
	for _, x := range []struct {
		s    api.Space
		want api.Errno
	}{
		{line(2, 0, 0, 0, 0), api.ErrForm}, {line(0, 0, 0, 0, 0), api.ErrForm}, {api.Space{Dim: 5}, api.ErrForm}, {line(2, 0), api.ErrForm}, {api.Space{Dim: 4, Basis: line(1, 0, 0, 0, 0).Basis}, api.ErrForm},
		{api.Space{}, api.ErrShape}, {line(1, 0), api.ErrShape}, {line(0, 0, 1, 0, 0, 0), api.ErrShape}, {line(1, 2, 3, 4, 5), api.ErrInvariant},
	} {
		n, e := atkinlehner.Sign(m, 37, x.s)
		expectError(t, "Sign", n, e, x.want)
		for _, sign := range []int{1, -1, 0, 2} {
			s, e := atkinlehner.Split(m, 37, x.s, sign)
			expectError(t, "Split", s, e, x.want)
		}
	}
	cuspidal, _ := boundary.Cuspidal(m)
	zero, _ := subspace.Zero(5)
	for _, sign := range []int{math.MinInt, -2, 0, 2, math.MaxInt} {
		for _, s := range []api.Space{cuspidal, zero} {
			part, e := atkinlehner.Split(m, 37, s, sign)
			expectError(t, "Split", part, e, api.ErrRange)
		}
	}
}

func TestSquares(t *testing.T) { // P48.2
	for _, m := range modules(t) {
		s := m.Spec()
		if !same(operator(t, m, 1), multiple(m.Dim(), rational.Of(1))) {
			t.Errorf("%v: W_1 is not the identity", s)
		}
		for _, q := range exact(s.Level) {
			w := operator(t, m, q)
			if !same(product(t, w, w), multiple(m.Dim(), power(q, s.Weight-2))) {
				t.Errorf("%v: the square of W_%d", s, q)
			}
			for _, r := range exact(s.Level / q) {
				if !same(product(t, w, operator(t, m, r)), operator(t, m, q*r)) {
					t.Errorf("%v: W_%d W_%d", s, q, r)
				}
			}
		}
	}
}

func TestCommute(t *testing.T) { // P48.3
	for _, m := range modules(t) {
		s := m.Spec()
		star, _ := boundary.Star(m)
		for _, q := range exact(s.Level) {
			w := operator(t, m, q)
			if !same(product(t, w, star), product(t, star, w)) {
				t.Errorf("%v: W_%d and the star involution", s, q)
			}
			for _, n := range []int{2, 3, 5, 7, 9, 10} {
				a, _ := hecke.Operator(m, n)
				if arith.Gcd(n, s.Level) == 1 && !same(product(t, w, a), product(t, a, w)) {
					t.Errorf("%v: W_%d and T_%d", s, q, n)
				}
			}
		}
	}
}

func TestMatrices(t *testing.T) { // P48.4
	r := rand.New(rand.NewSource(484))
	for _, m := range modules(t) {
		s := m.Spec()
		for _, q := range exact(s.Level) {
			w := operator(t, m, q)
			for range 5 {
				g, p := randomMatrix(r, s.Level, q), randomPath(r, s)
				if g.A*g.D-g.B*g.C != q || g.A%q != 0 || g.C%s.Level != 0 || g.D%q != 0 {
					t.Fatalf("%v for %d and %d", g, s.Level, q)
				}
				class, _ := paths.Coordinates(m, p)
				if want, e := matrix.Apply(class, w); e != api.OK || !sameRats(classOf(t, m, p, g), want) {
					t.Errorf("%v: the image of %v under %v", s, p, g)
				}
			}
		}
	}
}

// invariant returns subspaces that all Atkin-Lehner operators take to themselves.
func invariant(t *testing.T, m *symbols.Module) []api.Space {
	t.Helper()
	whole, _ := subspace.Whole(m.Dim())
	zero, _ := subspace.Zero(m.Dim())
	cuspidal, _ := boundary.Cuspidal(m)
	plus, _ := boundary.Signed(m, 1)
	minus, _ := boundary.Signed(m, -1)
	fresh, e := degeneracy.New(m)
	if e != api.OK {
		t.Fatal(m.Spec(), e)
	}
	return []api.Space{whole, zero, cuspidal, plus, minus, fresh}
}

func TestSplit(t *testing.T) { // P48.1, P48.5
	r := rand.New(rand.NewSource(485))
	for _, m := range modules(t) {
		for _, q := range exact(m.Spec().Level) {
			w := operator(t, m, q)
			for i, s := range invariant(t, m) {
				var parts []api.Space
				for _, sign := range []int{1, -1} {
					part, e := atkinlehner.Split(m, q, disguise(r, s), sign)
					if e != api.OK || part.Dim != m.Dim() || part.Basis.Cols != m.Dim() || subspace.Check(part) != api.OK {
						t.Fatalf("Split(%v, %d, space %d, %d): %v, %d", m.Spec(), q, i, sign, part, e)
					}
					scaled, _ := matrix.Scale(part.Basis, rational.Mul(rational.Of(sign), power(q, m.Spec().Weight/2-1)))
					if !same(product(t, part.Basis, w), scaled) {
						t.Errorf("Split(%v, %d, space %d, %d): %v", m.Spec(), q, i, sign, part)
					}
					parts = append(parts, part)
				}
				sum, _ := subspace.Sum(parts[0], parts[1])
				if !same(sum.Basis, s.Basis) || parts[0].Basis.Rows+parts[1].Basis.Rows != s.Basis.Rows {
					t.Errorf("Split(%v, %d, space %d): %v", m.Spec(), q, i, parts)
				}
			}
		}
	}
}

func TestSign(t *testing.T) { // P48.1
	r := rand.New(rand.NewSource(481))
	count := map[int]int{}
	for _, m := range modules(t) {
		for _, q := range exact(m.Spec().Level) {
			for i, s := range invariant(t, m) {
				plus, _ := atkinlehner.Split(m, q, s, 1)
				minus, _ := atkinlehner.Split(m, q, s, -1)
				want := 0
				if plus.Basis.Rows > 0 && minus.Basis.Rows == 0 {
					want = 1
				}
				if plus.Basis.Rows == 0 && minus.Basis.Rows > 0 {
					want = -1
				}
				count[want]++
				if sign, e := atkinlehner.Sign(m, q, disguise(r, s)); e != api.OK || sign != want {
					t.Errorf("Sign(%v, %d, space %d): %d, %d; want %d", m.Spec(), q, i, sign, e, want)
				}
				for sign, part := range map[int]api.Space{1: plus, -1: minus} {
					if part.Basis.Rows == 0 {
						sign = 0
					}
					if got, e := atkinlehner.Sign(m, q, part); e != api.OK || got != sign {
						t.Errorf("Sign(%v, %d, part of space %d): %d, %d; want %d", m.Spec(), q, i, got, e, sign)
					}
				}
			}
		}
	}
	if count[1] < 20 || count[-1] < 20 || count[0] < 20 {
		t.Error(count)
	}
}

func TestFixed(t *testing.T) { // P48.1: Lefschetz's formula for the Fricke involution
	for level := 5; level <= 60; level++ {
		m := module(t, spec(level, 2, 1))
		cuspidal, _ := boundary.Cuspidal(m)
		on, e := subspace.Restrict(cuspidal, operator(t, m, level))
		if e != api.OK {
			t.Fatal(level, e)
		}
		fixed, _ := trace.Fixed(level)
		if got, _ := matrix.Trace(on); rational.Cmp(got, rational.Of(2-fixed)) != 0 {
			t.Errorf("level %d: the trace of the involution is %s, and it has %d fixed points", level, rational.Format(got), fixed)
		}
	}
}

func TestExamples(t *testing.T) { // P48.1
	if w := operator(t, module(t, spec(2, 2, 1)), 2); !same(w, multiple(1, rational.Of(-1))) {
		t.Error(w)
	}
	for weight := 2; weight <= api.MaxWeight; weight += 2 {
		m := module(t, spec(1, weight, 1))
		if w := operator(t, m, 1); !same(w, multiple(m.Dim(), rational.Of(1))) {
			t.Error(weight, w)
		}
	}
	// The forms of level 11, of level 14, and both forms of level 37.
	for _, x := range []struct{ level, q, plus, minus int }{{11, 11, 0, 2}, {14, 2, 2, 0}, {14, 7, 0, 2}, {14, 14, 0, 2}, {37, 37, 2, 2}} {
		m := module(t, spec(x.level, 2, 1))
		cuspidal, _ := boundary.Cuspidal(m)
		plus, e := atkinlehner.Split(m, x.q, cuspidal, 1)
		minus, f := atkinlehner.Split(m, x.q, cuspidal, -1)
		if e != api.OK || f != api.OK || plus.Basis.Rows != x.plus || minus.Basis.Rows != x.minus {
			t.Errorf("level %d, W_%d: the dimensions are %d and %d", x.level, x.q, plus.Basis.Rows, minus.Basis.Rows)
		}
	}
	m := module(t, spec(37, 2, 1))
	cuspidal, _ := boundary.Cuspidal(m)
	for sign, want := range map[int]int{1: -2, -1: 0} {
		// a_2 of the form of rank 1 is -2, and that of the other one is 0.
		part, _ := atkinlehner.Split(m, 37, cuspidal, sign)
		if a, e := hecke.On(m, 2, part); e != api.OK || !same(a, multiple(2, rational.Of(want))) {
			t.Errorf("level 37, sign %d: T_2 is %v, %d", sign, a, e)
		}
	}
	if sign, e := atkinlehner.Sign(m, 37, cuspidal); e != api.OK || sign != 0 {
		t.Errorf("level 37: the sign %d, %d", sign, e)
	}
}

func TestMemory(t *testing.T) { // R3, R4
	m := module(t, spec(10, 4, 1))
	cuspidal, _ := boundary.Cuspidal(m)
	kept, _ := boundary.Cuspidal(m)
	for name, f := range map[string]func() []api.Rat{
		"Operator":   func() []api.Rat { a, _ := atkinlehner.Operator(m, 5); return a.A },
		"Operator 1": func() []api.Rat { a, _ := atkinlehner.Operator(m, 1); return a.A },
		"Split":      func() []api.Rat { s, _ := atkinlehner.Split(m, 2, cuspidal, 1); return s.Basis.A },
		"Split by 1": func() []api.Rat { s, _ := atkinlehner.Split(m, 1, cuspidal, 1); return s.Basis.A },
		"Sign":       func() []api.Rat { n, _ := atkinlehner.Sign(m, 2, cuspidal); return []api.Rat{rational.Of(n)} },
	} {
		got, want := f(), f()
		if len(want) == 0 {
			t.Fatalf("%s is empty", name)
		}
		for i := range got {
			spoil(got[i])
			if i+1 < len(got) && !sameRats(got[i+1:i+2], want[i+1:i+2]) {
				t.Fatalf("%s: fractions %d and %d share memory", name, i, i+1)
			}
		}
		if !sameRats(f(), want) {
			t.Errorf("%s: the result is kept", name)
		}
	}
	if !reflect.DeepEqual(cuspidal, kept) {
		t.Error("a space was changed")
	}
}
