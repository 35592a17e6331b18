package subspace_test

import (
	"math/big"
	"math/rand"
	"slices"
	"testing"

	"halfplane/api"
	"halfplane/bigint"
	"halfplane/charpoly"
	"halfplane/matrix"
	"halfplane/qpoly"
	"halfplane/rational"
	"halfplane/subspace"
)

// spanOf returns the subspace that rows of small integers span.
func spanOf(dim int, rows ...[]int) api.Space {
	s, _ := subspace.Span(of(dim, rows...))
	return s
}

// randomSpace returns a subspace of any dimension, sometimes with fractions that are not normalized.
func randomSpace(r *rand.Rand, dim int) api.Space {
	k := r.Intn(dim + 1)
	s, _ := subspace.Span(randomOfRank(r, k, dim, k))
	if r.Intn(3) == 0 {
		for i, x := range s.Basis.A {
			c := bigint.Of(-1 - r.Intn(3))
			s.Basis.A[i] = api.Rat{Num: bigint.Mul(x.Num, c), Den: bigint.Mul(x.Den, c)}
			if rational.Sign(x) == 0 {
				s.Basis.A[i] = api.Rat{Num: randomInt(r, 1), Den: minusZero}
			}
		}
	}
	return s
}

// checkSpace reports a subspace that is not the row space of a table.
func checkSpace(t *testing.T, what string, got api.Space, e api.Errno, want table) {
	t.Helper()
	m, _ := reduce(want)
	if got.Dim != want.cols {
		t.Fatal(what, got, want)
	}
	check(t, what, got.Basis, e, m)
	if subspace.Check(got) != api.OK {
		t.Fatal(what, "is not valid", got)
	}
	checkMemory(t, what, got.Basis.A)
}

// same reports whether two results are equal.
func same(a, b api.Space) bool {
	return a.Dim == b.Dim && a.Basis.Rows == b.Basis.Rows && a.Basis.Cols == b.Basis.Cols && text(a.Basis.A) == text(b.Basis.A)
}

// isZero reports whether a subspace beside an error is the zero value.
func isZero(s api.Space) bool {
	return s.Dim == 0 && s.Basis.Rows == 0 && s.Basis.Cols == 0 && len(s.Basis.A) == 0
}

// malformed are Spaces that are not valid.
func malformed() []api.Space {
	return []api.Space{
		{Dim: 1}, {Dim: -1}, {Dim: 1025, Basis: api.Matrix{Cols: 1025}}, {Dim: 2, Basis: of(3, []int{1, 0, 0})}, {Basis: api.Matrix{Cols: 1}},
		{Dim: 2, Basis: api.Matrix{Rows: 1, Cols: 2}}, {Dim: 2, Basis: of(2, []int{2, 0})}, {Dim: 2, Basis: of(2, []int{0, 0})}, {Dim: 2, Basis: of(2, []int{1, 0}, []int{0, 0})},
		{Dim: 2, Basis: of(2, []int{0, 1}, []int{1, 0})}, {Dim: 2, Basis: of(2, []int{1, 1}, []int{0, 1})}, {Dim: 3, Basis: of(3, []int{1, 0, 0}, []int{0, 1, 1}, []int{0, 0, 1})},
		{Dim: 3, Basis: of(3, []int{1, 0, 0}, []int{1, 1, 0})}, {Dim: 2, Basis: of(2, []int{1, 0}, []int{1, 0})}, {Dim: 2, Basis: of(2, []int{-1, 0})}, {Dim: 0, Basis: api.Matrix{Rows: 1}},
		{Dim: 1, Basis: of(1, []int{1}, []int{1})}, {Dim: 2, Basis: api.Matrix{Rows: 1, Cols: 2, A: parse("1/2 1")}}, {Dim: -1, Basis: api.Matrix{Rows: -1, Cols: -1, A: parse("1")}},
	}
}

func TestConstruction(t *testing.T) { // P10.1
	for _, s := range malformed() {
		if e := subspace.Check(s); e != api.ErrForm {
			t.Error(s, e)
		}
	}
	for _, s := range []api.Space{{}, {Dim: 3, Basis: api.Matrix{Cols: 3}}, spanOf(2, []int{0, 7}), {Dim: 2, Basis: api.Matrix{Rows: 1, Cols: 2, A: []api.Rat{{Num: bigint.Of(-3), Den: bigint.Of(-3)}, {Num: bigint.Of(5)}}}}} {
		if e := subspace.Check(s); e != api.OK {
			t.Error(s, e)
		}
	}
	r := rand.New(rand.NewSource(1))
	for i := range 200 {
		a := random(r, r.Intn(6), r.Intn(6))
		if i%10 == 0 {
			a = random(r, 9, 12)
		}
		s, e := subspace.Span(a)
		checkSpace(t, "Span", s, e, toTable(a))
		if subspace.Check(randomSpace(r, i%7)) != api.OK {
			t.Fatal("Check")
		}
	}
	for _, n := range []int{0, 1, 3, 12} {
		s, e := subspace.Whole(n)
		checkSpace(t, "Whole", s, e, unit(n))
		s, e = subspace.Zero(n)
		checkSpace(t, "Zero", s, e, blank(0, n))
	}
	if s, e := subspace.Whole(1024); e != api.OK || subspace.Check(s) != api.OK {
		t.Error(e)
	}
	for _, n := range []int{-1, 1025, -1 << 63, 1 << 62} {
		s, e := subspace.Whole(n)
		if e != api.ErrShape || !isZero(s) {
			t.Error(n, e)
		}
		s, e = subspace.Zero(n)
		if e != api.ErrShape || !isZero(s) {
			t.Error(n, e)
		}
	}
	for _, a := range []api.Matrix{{Rows: 1, Cols: 1}, {Rows: -1}, {Cols: 1025}} {
		if s, e := subspace.Span(a); e != api.ErrShape || !isZero(s) {
			t.Error(a, e)
		}
	}
}

func TestElements(t *testing.T) { // P10.2
	r := rand.New(rand.NewSource(2))
	for i := range 400 {
		s := randomSpace(r, i%7)
		basis := toTable(s.Basis)
		c := random(r, 1, s.Basis.Rows)
		inside, _ := matrix.Apply(c.A, s.Basis)
		got, e := subspace.Coordinates(s, inside)
		checkRow(t, "Coordinates", got, e, toTable(c).rows[0])
		checkMemory(t, "Coordinates", got)
		for _, v := range [][]api.Rat{inside, random(r, 1, s.Dim).A} {
			row := toTable(api.Matrix{Rows: 1, Cols: s.Dim, A: v}).rows[0]
			m, _ := reduce(table{cols: s.Dim, rows: append(slices.Clone(basis.rows), row)})
			in := len(m.rows) == len(basis.rows)
			if ok, e := subspace.Contains(s, v); ok != in || e != api.OK {
				t.Fatal(s, v, ok, e)
			}
			if c, e := subspace.Coordinates(s, v); !in && (e != api.ErrMember || len(c) != 0) {
				t.Fatal(s, v, c, e)
			}
		}
	}
	s := spanOf(3, []int{1, 1, 0}, []int{0, 0, 1})
	c, e := subspace.Coordinates(s, parse("2 2 5"))
	checkRow(t, "Coordinates", c, e, toTable(of(2, []int{2, 5})).rows[0])
	for n := range 5 {
		if c, e := subspace.Coordinates(s, make([]api.Rat, n)); n != 3 && (e != api.ErrShape || len(c) != 0) {
			t.Error(n, e)
		}
		if ok, e := subspace.Contains(s, make([]api.Rat, n)); n != 3 && (e != api.ErrShape || ok) {
			t.Error(n, e)
		}
	}
}

// stacked returns the table with the rows of both.
func stacked(a, b table) table {
	return table{cols: a.cols, rows: slices.Concat(a.rows, b.rows)}
}

func TestLattice(t *testing.T) { // P10.3, P10.6
	r := rand.New(rand.NewSource(3))
	for i := range 400 {
		dim := i % 7
		a, b := randomSpace(r, dim), randomSpace(r, dim)
		if i%3 == 0 {
			extra, _ := subspace.Span(random(r, 1, dim))
			b, _ = subspace.Sum(a, extra)
		}
		x, y := toTable(a.Basis), toTable(b.Basis)
		sum, e := subspace.Sum(a, b)
		checkSpace(t, "Sum", clone(sum), e, stacked(x, y))
		meet, e := subspace.Intersect(a, b)
		checkSpace(t, "Intersect", clone(meet), e, toTable(meet.Basis))
		in, e := subspace.Within(a, b)
		if whole, _ := reduce(stacked(x, y)); in != (len(whole.rows) == len(y.rows)) || e != api.OK {
			t.Fatal("Within", a, b, in, e)
		}
		for _, s := range []api.Space{a, b} {
			if in, e := subspace.Within(meet, s); !in || e != api.OK {
				t.Fatal("Intersect", a, b, meet)
			}
		}
		// It is all of the intersection, because the dimensions add up.
		if sum.Basis.Rows+meet.Basis.Rows != a.Basis.Rows+b.Basis.Rows {
			t.Fatal("dimensions", a, b, sum, meet)
		}
	}
	s := spanOf(3, []int{1, 1, 0}, []int{0, 0, 1})
	meet, e := subspace.Intersect(s, spanOf(3, []int{1, 0, 0}, []int{0, 1, 1}))
	checkSpace(t, "Intersect", meet, e, toTable(of(3, []int{1, 1, 1})))
	whole, _ := subspace.Whole(700)
	if sum, e := subspace.Sum(whole, whole); e != api.OK || !same(sum, whole) {
		t.Error("the sum of great spaces", e)
	}
	if meet, e := subspace.Intersect(whole, whole); e != api.OK || !same(meet, whole) {
		t.Error("the intersection of great spaces", e)
	}
}

// clone returns s in memory of its own.
func clone(s api.Space) api.Space {
	c, _ := matrix.Scale(s.Basis, rational.Of(1))
	return api.Space{Dim: s.Dim, Basis: c}
}

func TestModularLaw(t *testing.T) { // P10.6
	r := rand.New(rand.NewSource(4))
	for i := range 150 {
		dim := 1 + i%7
		a, c := randomSpace(r, dim), randomSpace(r, dim)
		part, _ := matrix.Mul(random(r, 2, a.Basis.Rows), a.Basis)
		b, _ := subspace.Span(part)
		sum, _ := subspace.Sum(b, c)
		left, e := subspace.Intersect(a, sum)
		meet, _ := subspace.Intersect(a, c)
		right, f := subspace.Sum(b, meet)
		if !same(left, right) || e != api.OK || f != api.OK {
			t.Fatal(a, b, c)
		}
		// The annihilator is its own inverse and takes sums to intersections.
		x, _ := subspace.Annihilator(a)
		y, _ := subspace.Annihilator(c)
		twice, e := subspace.Annihilator(x)
		if !same(twice, clone(a)) || e != api.OK {
			t.Fatal(a, x, twice)
		}
		sum, _ = subspace.Sum(a, c)
		z, e := subspace.Annihilator(sum)
		meet, _ = subspace.Intersect(x, y)
		if !same(z, meet) || e != api.OK {
			t.Fatal(a, c, z, meet)
		}
	}
}

func TestImages(t *testing.T) { // P10.4
	r := rand.New(rand.NewSource(5))
	for i := range 300 {
		dim, n := i%6, r.Intn(6)
		s := randomSpace(r, dim)
		a, b := random(r, dim, n), random(r, n, dim)
		image, e := subspace.Image(s, a)
		checkSpace(t, "Image", clone(image), e, mul(toTable(s.Basis), toTable(a)))
		inverse, e := subspace.Preimage(s, b)
		checkSpace(t, "Preimage", clone(inverse), e, toTable(inverse.Basis))
		// All of it is mapped into s, and its dimension is that of the kernel and of the part of s that is an image.
		back, _ := subspace.Image(inverse, b)
		in, _ := subspace.Within(back, s)
		whole, _ := subspace.Whole(n)
		all, _ := subspace.Image(whole, b)
		hit, _ := subspace.Intersect(all, s)
		if inverse.Dim != n || !in || inverse.Basis.Rows != n-all.Basis.Rows+hit.Basis.Rows {
			t.Fatal("Preimage", s, b, inverse)
		}
	}
}

// invariant returns a subspace with a matrix under which it is invariant: in a basis
// whose first k rows are those of s it has a block of zeros.
func invariant(r *rand.Rand, n, k int) (api.Space, api.Matrix) {
	for {
		c := random(r, n, n)
		inverse, e := matrix.Inverse(c)
		if e != api.OK {
			continue
		}
		t := random(r, n, n)
		for i := range k {
			for j := k; j < n; j++ {
				t.A[i*n+j] = rational.Of(0)
			}
		}
		t, _ = matrix.Mul(inverse, t)
		t, _ = matrix.Mul(t, c)
		s, _ := subspace.Span(api.Matrix{Rows: k, Cols: n, A: c.A[:k*n]})
		return s, t
	}
}

func TestMaps(t *testing.T) { // P10.4, P10.6
	r := rand.New(rand.NewSource(6))
	for i := range 150 {
		n := i % 6
		s, m := invariant(r, n, r.Intn(n+1))
		k := s.Basis.Rows
		small, e := subspace.Restrict(s, m)
		want := mul(toTable(s.Basis), toTable(m))
		check(t, "Restrict", small, e, toTable(small))
		if small.Rows != k || small.Cols != k {
			t.Fatal(small)
		}
		product, e := matrix.Mul(small, s.Basis)
		check(t, "Restrict * basis", product, e, want)
		// The unit vectors without pivots of s, modulo s.
		rest, e := subspace.Quotient(s, m)
		check(t, "Quotient", rest, e, toTable(rest))
		complement, _ := subspace.Complement(s)
		if rest.Rows != n-k || rest.Cols != n-k {
			t.Fatal(rest)
		}
		left, _ := matrix.Mul(complement.Basis, m)
		right, _ := matrix.Mul(rest, complement.Basis)
		difference, _ := matrix.Sub(left, right)
		modulo, _ := subspace.Span(difference)
		if in, _ := subspace.Within(modulo, s); !in {
			t.Fatal("Quotient", s, m, rest)
		}
		f, _ := charpoly.CharPoly(m)
		g, _ := charpoly.CharPoly(small)
		h, _ := charpoly.CharPoly(rest)
		if text(f) != text(qpoly.Mul(g, h)) {
			t.Fatal("characteristic polynomials", s, m, f, g, h)
		}
		checkMemory(t, "Restrict", small.A)
		checkMemory(t, "Quotient", rest.A)
	}
	s := spanOf(3, []int{1, 1, 0}, []int{0, 0, 1})
	swap := of(3, []int{0, 1, 0}, []int{1, 0, 0}, []int{0, 0, 1})
	m, e := subspace.Restrict(s, swap)
	check(t, "Restrict", m, e, unit(2))
	m, e = subspace.Quotient(s, swap)
	check(t, "Quotient", m, e, toTable(of(1, []int{-1})))
	for _, c := range []struct {
		s api.Space
		m api.Matrix
	}{{spanOf(2, []int{1, 0}), of(2, []int{0, 1}, []int{1, 0})}, {s, of(3, []int{1, 0, 0}, []int{0, 2, 0}, []int{0, 0, 1})}} {
		if m, e := subspace.Restrict(c.s, c.m); e != api.ErrInvariant || m.Rows+m.Cols+len(m.A) != 0 {
			t.Error(c, m, e)
		}
		if m, e := subspace.Quotient(c.s, c.m); e != api.ErrInvariant || m.Rows+m.Cols+len(m.A) != 0 {
			t.Error(c, m, e)
		}
	}
}

func TestComplements(t *testing.T) { // P10.5
	r := rand.New(rand.NewSource(7))
	for i := range 200 {
		n := i % 7
		s := randomSpace(r, n)
		_, pivots := reduce(toTable(s.Basis))
		want := table{cols: n}
		for j, row := range unit(n).rows {
			if !slices.Contains(pivots, j) {
				want.rows = append(want.rows, row)
			}
		}
		c, e := subspace.Complement(s)
		checkSpace(t, "Complement", c, e, want)
		a, e := subspace.Annihilator(s)
		checkSpace(t, "Annihilator", clone(a), e, toTable(a.Basis))
		if a.Basis.Rows != n-s.Basis.Rows {
			t.Fatal(s, a)
		}
		for _, row := range mul(toTable(a.Basis), transpose(toTable(s.Basis))).rows {
			for _, x := range row {
				if x.Cmp(new(big.Rat)) != 0 {
					t.Fatal("Annihilator", s, a)
				}
			}
		}
	}
	s := spanOf(3, []int{1, 1, 0}, []int{0, 0, 1})
	c, e := subspace.Complement(s)
	checkSpace(t, "Complement", c, e, toTable(of(3, []int{0, 1, 0})))
	a, e := subspace.Annihilator(s)
	checkSpace(t, "Annihilator", a, e, toTable(of(3, []int{1, -1, 0})))
}

func TestErrors(t *testing.T) { // the first error of every function
	good := spanOf(3, []int{1, 0, 2})
	other := spanOf(2, []int{0, 1})
	matrices := []api.Matrix{of(3, []int{1, 2, 3}), of(2, []int{1, 2}, []int{3, 4}), {Rows: 3, Cols: 3}, {Rows: -1}, {}}
	wrong := func(name string, s api.Space, e, want api.Errno) {
		t.Helper()
		if e != want || !isZero(s) {
			t.Error(name, s, e, want)
		}
	}
	for _, bad := range malformed() {
		for _, p := range [][2]api.Space{{bad, good}, {good, bad}, {other, bad}, {bad, bad}} {
			s, e := subspace.Sum(p[0], p[1])
			wrong("Sum", s, e, api.ErrForm)
			s, e = subspace.Intersect(p[0], p[1])
			wrong("Intersect", s, e, api.ErrForm)
			if in, e := subspace.Within(p[0], p[1]); in || e != api.ErrForm {
				t.Error("Within", p, e)
			}
		}
		for _, m := range matrices {
			checkMapErrors(t, bad, m, api.ErrForm)
		}
		s, e := subspace.Complement(bad)
		wrong("Complement", s, e, api.ErrForm)
		s, e = subspace.Annihilator(bad)
		wrong("Annihilator", s, e, api.ErrForm)
		for n := range 4 {
			if c, e := subspace.Coordinates(bad, make([]api.Rat, n)); e != api.ErrForm || len(c) != 0 {
				t.Error("Coordinates", bad, e)
			}
			if in, e := subspace.Contains(bad, make([]api.Rat, n)); e != api.ErrForm || in {
				t.Error("Contains", bad, e)
			}
		}
	}
	s, e := subspace.Sum(good, other)
	wrong("Sum", s, e, api.ErrShape)
	s, e = subspace.Intersect(good, other)
	wrong("Intersect", s, e, api.ErrShape)
	if in, e := subspace.Within(good, other); in || e != api.ErrShape {
		t.Error("Within", e)
	}
	for _, m := range matrices {
		checkMapErrors(t, good, m, api.ErrShape)
	}
	// The vectors are to have 3 elements before or after the map, as the function says.
	before, after := random(rand.New(rand.NewSource(8)), 3, 2), random(rand.New(rand.NewSource(9)), 2, 3)
	if s, e := subspace.Image(good, before); e != api.OK || s.Dim != 2 {
		t.Error(s, e)
	}
	s, e = subspace.Preimage(good, before)
	wrong("Preimage", s, e, api.ErrShape)
	if s, e := subspace.Preimage(good, after); e != api.OK || s.Dim != 2 {
		t.Error(s, e)
	}
	s, e = subspace.Image(good, after)
	wrong("Image", s, e, api.ErrShape)
	for _, m := range []api.Matrix{before, after} {
		if m, e := subspace.Restrict(good, m); e != api.ErrShape || len(m.A) != 0 {
			t.Error(m, e)
		}
		if m, e := subspace.Quotient(good, m); e != api.ErrShape || len(m.A) != 0 {
			t.Error(m, e)
		}
	}
}

// checkMapErrors checks the functions of a subspace and a matrix that does not fit.
func checkMapErrors(t *testing.T, s api.Space, m api.Matrix, want api.Errno) {
	t.Helper()
	if a, e := subspace.Image(s, m); e != want || !isZero(a) {
		t.Error("Image", s, m, a, e)
	}
	if want == api.ErrForm || m.Cols != s.Dim || !matrix.Valid(m) {
		if a, e := subspace.Preimage(s, m); e != want || !isZero(a) {
			t.Error("Preimage", s, m, a, e)
		}
	}
	if a, e := subspace.Restrict(s, m); e != want || a.Rows+a.Cols+len(a.A) != 0 {
		t.Error("Restrict", s, m, a, e)
	}
	if a, e := subspace.Quotient(s, m); e != want || a.Rows+a.Cols+len(a.A) != 0 {
		t.Error("Quotient", s, m, a, e)
	}
}

// Nothing is written into an argument, and no result shares memory with one.
func TestMemory(t *testing.T) { // R3
	r := rand.New(rand.NewSource(10))
	for i := range 60 {
		n := 1 + i%5
		a, b := randomSpace(r, n), randomSpace(r, n)
		s, m := invariant(r, n, r.Intn(n+1))
		v, _ := matrix.Apply(random(r, 1, a.Basis.Rows).A, a.Basis)
		before := text(slices.Concat(a.Basis.A, b.Basis.A, s.Basis.A, m.A, v))
		var results [][]api.Rat
		keep := func(x api.Space, _ api.Errno) { results = append(results, x.Basis.A) }
		keep(subspace.Span(m))
		keep(subspace.Sum(a, b))
		keep(subspace.Intersect(a, b))
		keep(subspace.Image(a, m))
		keep(subspace.Preimage(a, m))
		keep(subspace.Complement(a))
		keep(subspace.Annihilator(a))
		x, e := subspace.Restrict(s, m)
		keep(api.Space{Basis: x}, e)
		x, e = subspace.Quotient(s, m)
		keep(api.Space{Basis: x}, e)
		c, e := subspace.Coordinates(a, v)
		keep(api.Space{Basis: api.Matrix{A: c}}, e)
		subspace.Contains(a, v)
		subspace.Within(a, b)
		for k, l := range results {
			checkMemory(t, "result "+string(rune('a'+k)), l)
		}
		if text(slices.Concat(a.Basis.A, b.Basis.A, s.Basis.A, m.A, v)) != before {
			t.Fatal("an argument was changed")
		}
	}
}
