package boundary_test

import (
	"math"
	"math/big"
	"math/rand"
	"slices"
	"testing"

	"halfplane/api"
	"halfplane/boundary"
	"halfplane/dimension"
	"halfplane/manin"
	"halfplane/paths"
	"halfplane/rational"
	"halfplane/subspace"
)

func TestSpaces(t *testing.T) { // P43.1: the error of the space is the first one
	for _, s := range wrong() {
		want := dimension.Check(s)
		if want == api.OK {
			t.Fatalf("%v is valid", s)
		}
		l, e := boundary.Cusps(s)
		expectError(t, "Cusps", l, e, want)
		i, sign, e := boundary.Of(s, api.Cusp{})
		expectError(t, "Of", [2]int{i, sign}, e, want)
	}
}

func TestCusps(t *testing.T) { // P43.1
	zero := 0
	for _, s := range spaces() {
		b := spaceOf(s)
		if l, e := boundary.Cusps(s); e != api.OK || !slices.Equal(l, b.basis) {
			t.Errorf("Cusps(%v): %v, %d; want %v", s, l, e, b.basis)
		}
		if slices.Contains(b.isZero, true) {
			zero++
		}
	}
	if zero < 5 {
		t.Errorf("only %d spaces have generators that are 0", zero)
	}
}

func TestOf(t *testing.T) { // P43.1
	r := rand.New(rand.NewSource(431))
	for _, s := range spaces() {
		b := spaceOf(s)
		list := []api.Cusp{infinity, {P: 0, Q: 1}, {P: top, Q: 1}, {P: -top, Q: top - 1}, {P: 1, Q: top}, {P: -987654321, Q: 1000000007}}
		list = append(list, b.basis...)
		for range 60 {
			list = append(list, randomCusp(r, 200), randomCusp(r, top))
		}
		for _, c := range list {
			i, sign, e := boundary.Of(s, c)
			want := b.generator(c.P, c.Q)
			got := make([]int, len(want))
			if sign != 0 {
				got[i] = sign
			}
			if e != api.OK || !slices.Equal(got, want) || sign == 0 && i != 0 {
				t.Fatalf("Of(%v, %v): %d, %d, %d; want %v", s, c, i, sign, e, want)
			}
		}
		for i, c := range b.basis {
			if j, sign, e := boundary.Of(s, c); e != api.OK || i != j || sign != 1 {
				t.Errorf("Of(%v, %v): %d, %d, %d", s, c, j, sign, e)
			}
		}
		for c, want := range noCusps {
			i, sign, e := boundary.Of(s, c)
			expectError(t, "Of", [2]int{i, sign}, e, want)
		}
	}
}

func TestImages(t *testing.T) { // P43.3
	r := rand.New(rand.NewSource(433))
	for _, s := range spaces() {
		for range 40 {
			g, c := member(r, s.Level), randomCusp(r, 300)
			x, y := g.A*c.P+g.B*c.Q, g.C*c.P+g.D*c.Q
			factor := chi(s, g.D)
			if y < 0 || y == 0 && x < 0 {
				x, y = -x, -y
				if s.Weight%2 == 1 {
					factor = -factor
				}
			}
			i, sign, e := boundary.Of(s, c)
			j, other, f := boundary.Of(s, api.Cusp{P: x, Q: y})
			if e != api.OK || f != api.OK || i != j || other != factor*sign {
				t.Errorf("%v: %v is %d, %d, and its image under %v is %d, %d", s, c, i, sign, g, j, other)
			}
		}
	}
}

func TestMap(t *testing.T) { // P43.1, P43.2
	r := rand.New(rand.NewSource(432))
	for _, s := range spaces() {
		m, b := module(t, s), spaceOf(s)
		a, e := boundary.Map(m)
		if e != api.OK || a.Rows != m.Dim() || a.Cols != len(b.basis) {
			t.Fatalf("Map of %v: %d, %d, %d", s, a.Rows, a.Cols, e)
		}
		rows := rowsOf(t, a)
		for range 12 {
			poly := zeros(s.Weight - 1)
			fractions := make([]api.Rat, len(poly))
			for i, x := range poly {
				x.SetInt64(int64(r.Intn(21) - 10))
				fractions[i] = rational.Of(int(x.Num().Int64()))
			}
			p := api.Path{Poly: fractions, From: randomCusp(r, 40), To: randomCusp(r, 40)}
			class, e := paths.Coordinates(m, p)
			if e != api.OK {
				t.Fatalf("Coordinates(%v, %v): %d", s, p, e)
			}
			got := product(rowsOf(t, api.Matrix{Rows: 1, Cols: len(class), A: class})[0], rows, a.Cols)
			if want := b.boundary(poly, p.From, p.To); !same(got, want) {
				t.Fatalf("%v: the boundary of %v is %v, not %v", s, p, got, want)
			}
		}
	}
}

// expectSpace checks that a subspace is one of the module, in the form of layer 10, and
// returns its basis.
func expectSpace(t *testing.T, s api.Spec, x api.Space, dim, rows int) [][]*big.Rat {
	t.Helper()
	if x.Dim != dim || x.Basis.Rows != rows || subspace.Check(x) != api.OK {
		t.Fatalf("%v: a space of dimension %d in %d; want %d in %d", s, x.Basis.Rows, x.Dim, rows, dim)
	}
	return rowsOf(t, x.Basis)
}

func TestCuspidal(t *testing.T) { // P43.1
	for _, s := range append(spaces(), spec(12, 12, 12), spec(23, 6, 1)) {
		m := module(t, s)
		a, _ := boundary.Map(m)
		space, e := boundary.Cuspidal(m)
		cusp, _ := dimension.Cusp(s)
		if e != api.OK {
			t.Fatalf("Cuspidal of %v: %d", s, e)
		}
		rows := rowsOf(t, a)
		// There is a symbol for each cusp form and its conjugate, so this is the whole kernel.
		for _, x := range expectSpace(t, s, space, m.Dim(), 2*cusp) {
			if !same(product(x, rows, a.Cols), zeros(a.Cols)) {
				t.Fatalf("%v: %v has a boundary", s, x)
			}
		}
		if rank, _ := subspace.Span(a); rank.Basis.Rows != m.Dim()-2*cusp {
			t.Errorf("%v: the boundary map has the rank %d", s, rank.Basis.Rows)
		}
	}
}

func TestStar(t *testing.T) { // P43.1, P43.4
	for _, s := range append(spaces(), spec(12, 12, 12)) {
		m := module(t, s)
		star, e := boundary.Star(m)
		if e != api.OK || star.Rows != m.Dim() || star.Cols != m.Dim() {
			t.Fatalf("Star of %v: %d, %d, %d", s, star.Rows, star.Cols, e)
		}
		rows, all := rowsOf(t, star), rowsOf(t, m.Matrix())
		for n, x := range all {
			other, sign, _ := manin.Star(s, n)
			if got := product(x, rows, m.Dim()); !same(got, multiple(int64(sign), all[other])) {
				t.Fatalf("%v: the star of symbol %d is %v", s, n, got)
			}
		}
		for i, x := range rows {
			unit := zeros(m.Dim())
			unit[i].SetInt64(1)
			if !same(product(x, rows, m.Dim()), unit) {
				t.Fatalf("%v: the square of the star involution", s)
			}
		}
	}
}

func TestSigned(t *testing.T) { // P43.1, P43.4
	for _, s := range append(spaces(), spec(12, 12, 12), spec(23, 6, 1)) {
		m := module(t, s)
		star, _ := boundary.Star(m)
		rows := rowsOf(t, star)
		whole, _ := boundary.Cuspidal(m)
		cusp, _ := dimension.Cusp(s)
		for _, sign := range []int{1, -1} {
			space, e := boundary.Signed(m, sign)
			if e != api.OK {
				t.Fatalf("Signed(%v, %d): %d", s, sign, e)
			}
			for _, x := range expectSpace(t, s, space, m.Dim(), cusp) {
				if !same(product(x, rows, m.Dim()), multiple(int64(sign), x)) {
					t.Fatalf("%v: the star of %v", s, x)
				}
			}
			if within, e := subspace.Within(space, whole); !within || e != api.OK {
				t.Errorf("%v: the part with sign %d is not cuspidal", s, sign)
			}
		}
		if image, e := subspace.Image(whole, star); e != api.OK || image.Basis.Rows != whole.Basis.Rows {
			t.Errorf("%v: the image of the cuspidal part", s)
		} else if within, _ := subspace.Within(image, whole); !within {
			t.Errorf("%v: the cuspidal part is not invariant", s)
		}
		for _, sign := range []int{0, 2, -2, math.MinInt, math.MaxInt} {
			space, e := boundary.Signed(m, sign)
			expectError(t, "Signed", space, e, api.ErrRange)
		}
	}
}

func TestNil(t *testing.T) { // P43.1, R5
	a, e := boundary.Map(nil)
	expectError(t, "Map", a, e, api.ErrNil)
	a, e = boundary.Star(nil)
	expectError(t, "Star", a, e, api.ErrNil)
	x, e := boundary.Cuspidal(nil)
	expectError(t, "Cuspidal", x, e, api.ErrNil)
	for _, sign := range []int{0, 1} {
		x, e = boundary.Signed(nil, sign)
		expectError(t, "Signed", x, e, api.ErrNil)
	}
}

func TestExamples(t *testing.T) { // P43.1
	m := module(t, spec(2, 2, 1))
	a, e := boundary.Map(m)
	if rows := rowsOf(t, a); e != api.OK || len(rows) != 1 || !same(rows[0], []*big.Rat{big.NewRat(1, 1), big.NewRat(-1, 1)}) {
		t.Error(a, e)
	}
	if x, e := boundary.Cuspidal(m); e != api.OK || x.Dim != 1 || x.Basis.Rows != 0 || x.Basis.Cols != 1 {
		t.Error(x, e)
	}
	s := spec(4, 3, -4)
	if l, e := boundary.Cusps(s); e != api.OK || !slices.Equal(l, []api.Cusp{{P: 1, Q: 1}, {P: 1, Q: 4}}) {
		t.Error(l, e)
	}
	if i, sign, e := boundary.Of(s, infinity); e != api.OK || i != 1 || sign != 1 {
		t.Error(i, sign, e)
	}
	if i, sign, e := boundary.Of(s, api.Cusp{P: 1, Q: 2}); e != api.OK || i != 0 || sign != 0 {
		t.Error(i, sign, e)
	}
	// No form of level 1 and weight 2: all results are empty.
	empty := module(t, spec(1, 2, 1))
	if a, e := boundary.Map(empty); e != api.OK || a.Rows != 0 || a.Cols != 1 {
		t.Error(a, e)
	}
	if x, e := boundary.Signed(empty, -1); e != api.OK || x.Dim != 0 || x.Basis.Rows != 0 {
		t.Error(x, e)
	}
}

func TestMemory(t *testing.T) { // R3
	m := module(t, spec(5, 6, 5))
	for name, f := range map[string]func() []api.Rat{
		"Map":      func() []api.Rat { a, _ := boundary.Map(m); return a.A },
		"Star":     func() []api.Rat { a, _ := boundary.Star(m); return a.A },
		"Cuspidal": func() []api.Rat { x, _ := boundary.Cuspidal(m); return x.Basis.A },
		"Signed":   func() []api.Rat { x, _ := boundary.Signed(m, -1); return x.Basis.A },
	} {
		got, want := f(), f()
		for i := range got {
			for _, mag := range [][]uint32{got[i].Num.Mag, got[i].Den.Mag} {
				mag = mag[:cap(mag)]
				for k := range mag {
					mag[k] = 77
				}
			}
			if i+1 < len(got) && toRat(got[i+1]).Cmp(toRat(want[i+1])) != 0 {
				t.Fatalf("%s: fractions %d and %d share memory", name, i, i+1)
			}
		}
		for i, x := range f() {
			if toRat(x).Cmp(toRat(want[i])) != 0 {
				t.Fatalf("%s: the result is kept", name)
			}
		}
	}
	l, _ := boundary.Cusps(m.Spec())
	clear(l[:cap(l)])
	if again, _ := boundary.Cusps(m.Spec()); slices.Contains(again, api.Cusp{}) {
		t.Error("Cusps is kept")
	}
}
