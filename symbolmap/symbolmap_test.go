package symbolmap_test

import (
	"math/rand"
	"reflect"
	"slices"
	"testing"

	"halfplane/api"
	"halfplane/manin"
	"halfplane/matrix"
	"halfplane/paths"
	"halfplane/rational"
	"halfplane/symbolmap"
	"halfplane/symbols"
)

// module returns the module of a valid space.
func module(t *testing.T, level, weight, disc int) *symbols.Module {
	t.Helper()
	m, e := symbols.New(api.Spec{Level: level, Weight: weight, Disc: disc})
	if e != api.OK {
		t.Fatalf("New(%d, %d, %d): %d", level, weight, disc, e)
	}
	return m
}

// modules returns the modules of spaces of all kinds.
func modules(t *testing.T) []*symbols.Module {
	t.Helper()
	return []*symbols.Module{
		module(t, 1, 2, 1), module(t, 1, 12, 1), module(t, 2, 6, 1), module(t, 3, 3, -3), module(t, 4, 5, -4), module(t, 5, 4, 5), module(t, 8, 3, -8),
		module(t, 11, 2, 1), module(t, 12, 4, 12), module(t, 12, 5, -4), module(t, 30, 2, 1), module(t, 24, 2, 24), module(t, 120, 2, 1), module(t, 5, 24, 1),
	}
}

// sumOf returns the matrix whose rows are the images of the free symbols of a module in a
// space of a dimension.
func sumOf(t *testing.T, m *symbols.Module, dim int, image func(n int) []api.Rat) api.Matrix {
	t.Helper()
	var rows [][]api.Rat
	for _, n := range m.Free() {
		rows = append(rows, image(n))
	}
	a, e := matrix.FromRows(dim, rows)
	if e != api.OK {
		t.Fatal(e)
	}
	return a
}

// same reports whether matrices are equal.
func same(a, b api.Matrix) bool {
	return a.Rows == b.Rows && a.Cols == b.Cols && slices.EqualFunc(a.A, b.A, func(x, y api.Rat) bool {
		return x.Num.Neg == y.Num.Neg && slices.Equal(x.Num.Mag, y.Num.Mag) && x.Den.Neg == y.Den.Neg && slices.Equal(x.Den.Mag, y.Den.Mag)
	})
}

// acted returns the class of a symbol times g.
func acted(t *testing.T, m *symbols.Module, n int, g api.Mat2) []api.Rat {
	t.Helper()
	image, e := manin.Apply(m.Spec(), n, g)
	if e != api.OK {
		t.Fatal(m.Spec(), n, g, e)
	}
	var vector []api.Rat
	for _, x := range image {
		vector = append(vector, rational.Whole(x))
	}
	class, e := m.Vector(vector)
	if e != api.OK {
		t.Fatal(m.Spec(), n, g, e)
	}
	return class
}

// translated returns the class, in l, of factor times the image of the path of a symbol of
// m under g.
func translated(t *testing.T, m, l *symbols.Module, n int, g api.Mat2, factor int) []api.Rat {
	t.Helper()
	p, e := paths.Symbol(m, n)
	if e != api.OK {
		t.Fatal(m.Spec(), n, e)
	}
	image, e := paths.Translate(p, g)
	if e != api.OK {
		t.Fatal(m.Spec(), p, g, e)
	}
	class, e := paths.Coordinates(l, image)
	if e != api.OK {
		t.Fatal(m.Spec(), image, e)
	}
	for i, x := range class {
		class[i] = rational.Mul(rational.Of(factor), x)
	}
	return class
}

func TestNew(t *testing.T) {
	for _, m := range modules(t) {
		zero, _ := matrix.New(m.Dim(), m.Dim())
		if a := symbolmap.New(m, m).Matrix(); !same(a, zero) {
			t.Errorf("%v: %v", m.Spec(), a)
		}
	}
	zero, _ := matrix.New(7, 3)
	if a := symbolmap.New(module(t, 22, 2, 1), module(t, 11, 2, 1)).Matrix(); !same(a, zero) {
		t.Errorf("level 22 to 11: %v", a)
	}
}

func TestAct(t *testing.T) {
	r := rand.New(rand.NewSource(1))
	entry := func(limit int) int { return r.Intn(2*limit+1) - limit }
	for _, m := range modules(t) {
		list := []api.Mat2{{}, {A: 1, D: 1}, {B: -1, C: 1}, {A: 2, B: 1, D: 3}, {A: m.Spec().Level, D: 1}, {A: 1 << 30, B: -1 << 30, C: 1 << 30, D: 1<<30 - 1}}
		for range 4 {
			list = append(list, api.Mat2{A: entry(9), B: entry(9), C: entry(9), D: entry(9)}, api.Mat2{A: entry(1 << 30), B: entry(1 << 30), C: entry(1 << 30), D: entry(1 << 30)})
		}
		for _, g := range list {
			x := symbolmap.New(m, m)
			x.Act(g)
			want := sumOf(t, m, m.Dim(), func(n int) []api.Rat { return acted(t, m, n, g) })
			if a := x.Matrix(); !same(a, want) {
				t.Errorf("%v, %v: %v, want %v", m.Spec(), g, a, want)
			}
		}
	}
}

func TestTranslate(t *testing.T) {
	for _, m := range modules(t) {
		n := m.Spec().Level
		for _, g := range []api.Mat2{{A: 1, D: 1}, {A: -1, D: -1}, {B: -1, C: 1}, {A: 2, D: 1}, {A: 1, B: 3, D: 5}, {A: 4, B: 7, D: 9}, {A: 5, B: -3, C: 2, D: 4}, {A: 1, D: -1}, {B: -1, C: n}} {
			for _, factor := range []int{1, -1} {
				x := symbolmap.New(m, m)
				x.Translate(g, factor)
				want := sumOf(t, m, m.Dim(), func(n int) []api.Rat { return translated(t, m, m, n, g, factor) })
				if a := x.Matrix(); !same(a, want) {
					t.Errorf("%v, %v: %v, want %v", m.Spec(), g, a, want)
				}
			}
		}
	}
}

func TestLevels(t *testing.T) {
	for _, x := range []struct{ m, l *symbols.Module }{
		{module(t, 12, 4, 1), module(t, 6, 4, 1)}, {module(t, 22, 2, 1), module(t, 11, 2, 1)}, {module(t, 9, 3, -3), module(t, 3, 3, -3)}, {module(t, 8, 12, 1), module(t, 1, 12, 1)},
		{module(t, 11, 2, 1), module(t, 1, 2, 1)},
	} {
		for _, g := range []api.Mat2{{A: 1, D: 1}, {A: 2, D: 1}, {A: 3, B: 1, D: 1}} {
			image := symbolmap.New(x.m, x.l)
			image.Translate(g, 1)
			want := sumOf(t, x.m, x.l.Dim(), func(n int) []api.Rat { return translated(t, x.m, x.l, n, g, 1) })
			if a := image.Matrix(); !same(a, want) {
				t.Errorf("%v to %v, %v: %v, want %v", x.m.Spec(), x.l.Spec(), g, a, want)
			}
		}
	}
}

func TestOf(t *testing.T) {
	for _, m := range modules(t) {
		s := m.Spec()
		count, _ := manin.Count(s)
		numbers := []int{count - 1, 0, count / 2, 0, count / 3}
		g := api.Mat2{A: 3, B: 1, C: 1, D: 2}
		for _, l := range [][]int{nil, numbers[:1], numbers} {
			x := symbolmap.Of(s, l, m)
			x.Act(g)
			a := x.Matrix()
			if a.Rows != len(l) || a.Cols != m.Dim() {
				t.Fatalf("%v, %v: %v", s, l, a)
			}
			for i, n := range l {
				if row, _ := matrix.Row(a, i); !slices.EqualFunc(row, acted(t, m, n, g), func(x, y api.Rat) bool { return rational.Cmp(x, y) == 0 }) {
					t.Errorf("%v: the image of symbol %d is %v", s, n, row)
				}
			}
		}
	}
}

func TestSums(t *testing.T) {
	for _, m := range modules(t) {
		x := symbolmap.New(m, m)
		x.Act(api.Mat2{A: 2, B: 1, D: 1})
		x.Translate(api.Mat2{A: 3, B: 1, D: 2}, -1)
		x.Act(api.Mat2{A: 1, D: 5})
		want := sumOf(t, m, m.Dim(), func(n int) []api.Rat {
			first, second, third := acted(t, m, n, api.Mat2{A: 2, B: 1, D: 1}), translated(t, m, m, n, api.Mat2{A: 3, B: 1, D: 2}, -1), acted(t, m, n, api.Mat2{A: 1, D: 5})
			for i := range first {
				first[i] = rational.Add(rational.Add(first[i], second[i]), third[i])
			}
			return first
		})
		// The matrix may be asked for again.
		if a, b := x.Matrix(), x.Matrix(); !same(a, want) || !reflect.DeepEqual(a, b) {
			t.Errorf("%v: %v, want %v", m.Spec(), a, want)
		}
	}
}
