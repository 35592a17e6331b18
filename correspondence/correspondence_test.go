package correspondence_test

import (
	"math/rand"
	"reflect"
	"slices"
	"testing"

	"halfplane/api"
	"halfplane/arith"
	"halfplane/correspondence"
	"halfplane/dimension"
	"halfplane/hecke"
	"halfplane/matrix"
	"halfplane/paths"
	"halfplane/rational"
	"halfplane/symbols"
)

// images is correspondence.Images, which must not fail.
func images(t *testing.T, s api.Spec, n int, p api.Path) []api.Path {
	t.Helper()
	l, e := correspondence.Images(s, n, p)
	if e != api.OK {
		t.Fatalf("Images(%v, %d, %v): %d", s, n, p, e)
	}
	return l
}

// classOf returns the sum of the classes of paths.
func classOf(t *testing.T, m *symbols.Module, l ...api.Path) []api.Rat {
	t.Helper()
	var classes [][]api.Rat
	for _, p := range l {
		class, e := paths.Coordinates(m, p)
		if e != api.OK {
			t.Fatalf("Coordinates(%v, %v): %d", m.Spec(), p, e)
		}
		classes = append(classes, class)
	}
	return sumOf(m.Dim(), classes...)
}

func TestSpaces(t *testing.T) { // P46.1: the error of the space is the first one
	for _, s := range wrong() {
		want := dimension.Check(s)
		if want == api.OK {
			t.Fatalf("%v is valid", s)
		}
		for _, n := range []int{0, 1} {
			l, factors, e := correspondence.Cosets(s, n)
			expectError(t, "Cosets", l, e, want)
			expectError(t, "Cosets", factors, e, want)
			p, e := correspondence.Images(s, n, api.Path{})
			expectError(t, "Images", p, e, want)
		}
	}
}

func TestCosets(t *testing.T) { // P46.1
	for _, s := range append(spaces(), spec(120, 2, 60), spec(97, 2, 97)) {
		for n := 1; n <= 48; n++ {
			want, signs := cosets(s, n)
			if l, factors, e := correspondence.Cosets(s, n); e != api.OK || !slices.Equal(l, want) || !slices.Equal(factors, signs) {
				t.Errorf("Cosets(%v, %d): %v, %v, %d; want %v, %v", s, n, l, factors, e, want, signs)
			}
		}
		for _, n := range noIndices {
			l, factors, e := correspondence.Cosets(s, n)
			expectError(t, "Cosets", l, e, api.ErrRange)
			expectError(t, "Cosets", factors, e, api.ErrRange)
		}
	}
}

func TestCount(t *testing.T) { // P46.4
	for _, s := range spaces() {
		count := make([]int, api.MaxHecke+1)
		for n := 1; n <= api.MaxHecke; n++ {
			l, factors, e := correspondence.Cosets(s, n)
			if e != api.OK || len(l) != len(factors) {
				t.Fatal(s, n, e)
			}
			count[n] = len(l)
		}
		for n := 1; n <= api.MaxHecke; n++ {
			for k := 1; k*n <= api.MaxHecke; k++ {
				if arith.Gcd(k, n) == 1 && count[k*n] != count[k]*count[n] {
					t.Errorf("%v: %d matrices for %d", s, count[k*n], k*n)
				}
			}
			if prime, _ := arith.IsPrime(n); prime && s.Level%n == 0 && count[n] != n || prime && s.Level%n != 0 && count[n] != n+1 {
				t.Errorf("%v: %d matrices for %d", s, count[n], n)
			}
		}
	}
}

// expectImage checks that q is factor times the image of p under g = (a b; 0 d).
func expectImage(t *testing.T, p, q api.Path, g api.Mat2, factor int) {
	t.Helper()
	if len(q.Poly) != len(p.Poly) || q.From != imageOf(g, p.From) || q.To != imageOf(g, p.To) {
		t.Fatalf("the image of %v under %v is %v", p, g, q)
	}
	for i, c := range q.Poly {
		if !sameRats([]api.Rat{c}, []api.Rat{rational.Normal(c)}) {
			t.Fatalf("%v is not normalized", c)
		}
		// A polynomial is known by as many values as it has coefficients.
		want := rational.Mul(rational.Of(factor), valueAt(p.Poly, g.D*i-g.B, g.A))
		if rational.Cmp(valueAt(q.Poly, i, 1), want) != 0 {
			t.Fatalf("the image of %v under %v, times %d, is %v", p, g, factor, q)
		}
	}
}

func TestImages(t *testing.T) { // P46.1
	r := rand.New(rand.NewSource(461))
	for _, s := range spaces() {
		for _, n := range []int{1, 2, 3, 4, 6, 7, 11, 12} {
			l, factors := cosets(s, n)
			p := randomPath(r, s)
			found := images(t, s, n, p)
			if len(found) != len(l) {
				t.Fatalf("Images(%v, %d): %d images", s, n, len(found))
			}
			for i, q := range found {
				expectImage(t, p, q, l[i], factors[i])
			}
		}
	}
	for _, n := range []int{127, api.MaxHecke} {
		s := spec(7, 3, -7)
		l, factors := cosets(s, n)
		p := api.Path{Poly: randomPoly(r, 2), From: api.Cusp{P: 7654321, Q: 8388607}, To: infinity}
		for i, q := range images(t, s, n, p) {
			expectImage(t, p, q, l[i], factors[i])
		}
	}
}

func TestImagesErrors(t *testing.T) { // P46.1
	s := spec(7, 3, -7)
	poly := []api.Rat{rational.Of(1), rational.Of(2)}
	no, negative := api.Cusp{P: 2, Q: 4}, api.Cusp{P: 1, Q: -1}
	wide, high := api.Cusp{P: 1, Q: top}, api.Cusp{P: top - 1, Q: 1}
	for _, n := range noIndices {
		p, e := correspondence.Images(s, n, api.Path{From: no})
		expectError(t, "Images", p, e, api.ErrRange)
	}
	for _, n := range []int{0, 1, 3, 100} {
		p, e := correspondence.Images(s, 2, api.Path{Poly: make([]api.Rat, n), From: no})
		expectError(t, "Images", p, e, api.ErrShape)
	}
	for i, x := range []struct {
		from, to api.Cusp
		want     api.Errno
	}{
		{no, negative, api.ErrForm}, {negative, no, api.ErrRange}, {null, no, api.ErrForm}, {null, negative, api.ErrRange}, {api.Cusp{}, null, api.ErrForm},
		// 1/top is mapped beyond the limit by the first matrix, (1 0; 0 2), but top - 1 only
		// by the last one, (2 0; 0 1).
		{wide, no, api.ErrLarge}, {no, wide, api.ErrForm}, {null, wide, api.ErrLarge}, {high, no, api.ErrForm}, {high, negative, api.ErrRange}, {high, null, api.ErrLarge}, {null, high, api.ErrLarge},
	} {
		p, e := correspondence.Images(s, 2, api.Path{Poly: poly, From: x.from, To: x.to})
		if e != x.want || len(p) != 0 {
			t.Errorf("path %d: %v, %d; want error %d", i, p, e, x.want)
		}
	}
	if p, e := correspondence.Images(spec(2, 4, 1), 2, api.Path{Poly: make([]api.Rat, 3), From: high, To: null}); e != api.OK || len(p) != 2 {
		t.Errorf("%v, %d", p, e)
	}
}

func TestOperator(t *testing.T) { // P46.1, P46.2
	for _, s := range spaces() {
		m := module(t, s)
		for _, n := range []int{1, 2, 3, 4, 5, 6, 9, 12} {
			var rows [][]api.Rat
			for _, k := range m.Free() {
				p, _ := paths.Symbol(m, k)
				rows = append(rows, classOf(t, m, images(t, s, n, p)...))
			}
			want, _ := matrix.FromRows(m.Dim(), rows)
			if a, e := correspondence.Operator(m, n); e != api.OK || !same(a, want) {
				t.Errorf("Operator(%v, %d): %v, %d; want %v", s, n, a, e, want)
			}
		}
	}
}

func TestHecke(t *testing.T) { // P46.2
	for _, s := range append(spaces(), spec(60, 2, 1), spec(120, 2, 60), spec(11, 8, 1), spec(15, 6, 5), spec(27, 3, -3)) {
		m := module(t, s)
		for n := 1; n <= 14; n++ {
			want, _ := hecke.Operator(m, n)
			if a, e := correspondence.Operator(m, n); e != api.OK || !same(a, want) {
				t.Errorf("Operator(%v, %d): %v, %d; want %v", s, n, a, e, want)
			}
		}
	}
	for _, s := range []api.Spec{spec(1, 12, 1), spec(11, 2, 1), spec(4, 5, -4)} {
		m := module(t, s)
		for n := 15; n <= api.MaxHecke; n++ {
			want, _ := hecke.Operator(m, n)
			if a, e := correspondence.Operator(m, n); e != api.OK || !same(a, want) {
				t.Errorf("Operator(%v, %d): %v, %d; want %v", s, n, a, e, want)
			}
		}
	}
}

func TestOperatorErrors(t *testing.T) { // P46.1
	m := module(t, spec(11, 2, 1))
	for _, n := range noIndices {
		a, e := correspondence.Operator(m, n)
		expectError(t, "Operator", a, e, api.ErrRange)
		a, e = correspondence.Operator(nil, n)
		expectError(t, "Operator", a, e, api.ErrNil)
	}
	a, e := correspondence.Operator(nil, 2)
	expectError(t, "Operator", a, e, api.ErrNil)
}

func TestClasses(t *testing.T) { // P46.3
	r := rand.New(rand.NewSource(463))
	for _, s := range spaces() {
		m := module(t, s)
		for _, n := range []int{1, 2, 3, 4, 6, 7} {
			a, e := correspondence.Operator(m, n)
			if e != api.OK {
				t.Fatal(s, n, e)
			}
			for range 3 {
				p := randomPath(r, s)
				want, _ := matrix.Apply(classOf(t, m, p), a)
				if got := classOf(t, m, images(t, s, n, p)...); !sameRats(got, want) {
					t.Errorf("%v: T_%d of %v has the class %v, not %v", s, n, p, got, want)
				}
			}
		}
	}
}

func TestExamples(t *testing.T) { // P46.1
	s := spec(3, 3, -3)
	if l, factors, e := correspondence.Cosets(s, 2); e != api.OK || !slices.Equal(l, []api.Mat2{{A: 1, D: 2}, {A: 1, B: 1, D: 2}, {A: 2, D: 1}}) || !slices.Equal(factors, []int{1, 1, -1}) {
		t.Error(l, factors, e)
	}
	if l, factors, e := correspondence.Cosets(s, 3); e != api.OK || !slices.Equal(l, []api.Mat2{{A: 1, D: 3}, {A: 1, B: 1, D: 3}, {A: 1, B: 2, D: 3}}) || !slices.Equal(factors, []int{1, 1, 1}) {
		t.Error(l, factors, e)
	}
	integers := func(l ...int) []api.Rat {
		var x []api.Rat
		for _, n := range l {
			x = append(x, rational.Of(n))
		}
		return x
	}
	p := api.Path{Poly: integers(0, 0, 1), From: null, To: infinity}
	want := []api.Path{
		{Poly: integers(0, 0, 4), From: null, To: infinity}, {Poly: integers(1, -4, 4), From: api.Cusp{P: 1, Q: 2}, To: infinity}, {Poly: integers(0, 0, 1), From: null, To: infinity},
	}
	l := images(t, spec(1, 4, 1), 2, p)
	if !slices.EqualFunc(l, want, func(x, y api.Path) bool { return x.From == y.From && x.To == y.To && sameRats(x.Poly, y.Poly) }) {
		t.Error(l)
	}
	if a, e := correspondence.Operator(module(t, spec(1, 4, 1)), 2); e != api.OK || a.Rows != 1 || !sameRats(a.A, integers(9)) {
		t.Error(a, e)
	}
	if a, e := correspondence.Operator(module(t, spec(1, 2, 1)), 2); e != api.OK || a.Rows != 0 || len(a.A) != 0 {
		t.Error(a, e)
	}
}

func TestMemory(t *testing.T) { // R3, R4
	s := spec(12, 4, 12)
	m := module(t, s)
	p := api.Path{Poly: []api.Rat{rational.Of(1), rational.Of(2), rational.Of(3)}, From: null, To: infinity}
	kept := []api.Rat{rational.Of(1), rational.Of(2), rational.Of(3)}
	for name, f := range map[string]func() []api.Rat{
		"Operator":   func() []api.Rat { a, _ := correspondence.Operator(m, 2); return a.A },
		"Operator 1": func() []api.Rat { a, _ := correspondence.Operator(m, 1); return a.A },
		"Images": func() (all []api.Rat) {
			l, _ := correspondence.Images(s, 5, p)
			for _, q := range l {
				all = append(all, q.Poly...)
			}
			return all
		},
		"Images 1": func() []api.Rat { l, _ := correspondence.Images(s, 1, p); return l[0].Poly },
	} {
		got, want := f(), f()
		for i := range got {
			spoil(got[i])
			if i+1 < len(got) && !sameRats(got[i+1:i+2], want[i+1:i+2]) {
				t.Fatalf("%s: fractions %d and %d share memory", name, i, i+1)
			}
		}
		if !sameRats(f(), want) {
			t.Errorf("%s: the result is kept", name)
		}
	}
	if !reflect.DeepEqual(p.Poly, kept) {
		t.Error("a path was changed")
	}
	// The polynomials of two images do not share their memory.
	l, _ := correspondence.Images(s, 5, p)
	first := slices.Clone(l[0].Poly)
	for _, q := range l[1:] {
		clear(q.Poly[:cap(q.Poly)])
	}
	if !reflect.DeepEqual(l[0].Poly, first) {
		t.Error("two polynomials share their memory")
	}
	matrices, factors, _ := correspondence.Cosets(s, 5)
	clear(matrices[:cap(matrices)])
	clear(factors[:cap(factors)])
	if l, signs, _ := correspondence.Cosets(s, 5); slices.Contains(l, api.Mat2{}) || slices.Contains(signs, 0) {
		t.Error("Cosets is kept")
	}
}
