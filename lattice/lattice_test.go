package lattice_test

import (
	"math/big"
	"math/rand"
	"slices"
	"testing"

	"halfplane/api"
	"halfplane/bigint"
	"halfplane/lattice"
)

// malformed are matrices that are not valid.
func malformed() []api.ZMatrix {
	x := bigint.Of(1)
	return []api.ZMatrix{
		{Rows: 1, Cols: 1}, {Rows: -1}, {Cols: -1}, {Rows: -1, Cols: -1, A: []api.Int{x}}, {A: []api.Int{x}}, {Rows: 1025}, {Cols: 1025}, {Rows: 1 << 62, Cols: 4},
		{Rows: 2, Cols: 2, A: []api.Int{x, x, x}}, {Rows: 1, Cols: 1025, A: make([]api.Int, 1025)}, {Rows: -2, Cols: -2, A: []api.Int{x, x, x, x}},
	}
}

// checkHermite reports a matrix that is not in Hermite normal form.
func checkHermite(t *testing.T, h api.ZMatrix) {
	t.Helper()
	rows := toTable(h).rows
	before := -1
	for i, row := range rows {
		pivot := slices.IndexFunc(row, func(x *big.Int) bool { return x.Sign() != 0 })
		if pivot < 0 {
			before = h.Cols
			continue
		}
		if pivot <= before || row[pivot].Sign() < 0 {
			t.Fatal("not in Hermite normal form", h)
		}
		for _, above := range rows[:i] {
			if above[pivot].Sign() < 0 || above[pivot].Cmp(row[pivot]) >= 0 {
				t.Fatal("not in Hermite normal form", h)
			}
		}
		before = pivot
	}
}

// checkUnimodular reports a matrix that is not unimodular and normalized.
func checkUnimodular(t *testing.T, u api.ZMatrix, n int) {
	t.Helper()
	check(t, "unimodular matrix", u, api.OK, toTable(u))
	if u.Rows != n || u.Cols != n || detOf(toTable(u)).CmpAbs(big.NewInt(1)) != 0 {
		t.Fatal("not unimodular", u)
	}
}

// unimodular returns a matrix that is made from unit vectors and their negatives by
// adding multiples of rows to others.
func unimodular(r *rand.Rand, n int) api.ZMatrix {
	u := api.ZMatrix{Rows: n, Cols: n, A: make([]api.Int, n*n)}
	for i, j := range r.Perm(n) {
		u.A[i*n+j] = bigint.Of(1 - 2*r.Intn(2))
	}
	for range 3 * n {
		i, j, c := r.Intn(n), r.Intn(n), bigint.Of(r.Intn(5)-2)
		for k := range n {
			if i != j {
				u.A[i*n+k] = bigint.Add(u.A[i*n+k], bigint.Mul(c, u.A[j*n+k]))
			}
		}
	}
	return u
}

func TestHermite(t *testing.T) { // P12.1
	various(1, 500, func(r *rand.Rand, m api.ZMatrix) {
		h, u, e := lattice.Hermite(m)
		check(t, "Hermite", h, e, toTable(h))
		checkUnimodular(t, u, m.Rows)
		checkHermite(t, h)
		check(t, "Hermite", h, e, mul(toTable(u), toTable(m)))
		b, e := lattice.Basis(m)
		rank := rankOf(toTable(m))
		want := toTable(h)
		want.rows = want.rows[:rank]
		check(t, "Basis", b, e, want)
		// It is the same for another list of generators of the lattice.
		other, e := lattice.Basis(product(unimodular(r, m.Rows), m))
		check(t, "Basis", other, e, want)
		other, e = lattice.Basis(stack(m, product(random(r, 2, m.Rows), m)))
		check(t, "Basis", other, e, want)
		checkMemory(t, "Hermite", slices.Concat(h.A, u.A))
		checkMemory(t, "Basis", b.A)
	})
	b, e := lattice.Basis(of(2, []int{4, 0}, []int{0, 6}, []int{2, 3}))
	check(t, "Basis", b, e, toTable(of(2, []int{2, 3}, []int{0, 6})))
	h, u, e := lattice.Hermite(api.ZMatrix{Rows: 2, Cols: 1, A: []api.Int{minusZero, {Neg: true, Mag: []uint32{3, 0}}}})
	check(t, "Hermite", h, e, toTable(of(1, []int{3}, []int{0})))
	checkUnimodular(t, u, 2)
	for _, m := range []api.ZMatrix{{}, {Rows: 3}, {Cols: 3}, {Rows: 2, Cols: 3, A: make([]api.Int, 6)}} {
		h, u, e := lattice.Hermite(m)
		check(t, "Hermite", h, e, blank(m.Rows, m.Cols))
		checkUnimodular(t, u, m.Rows)
		b, e := lattice.Basis(m)
		check(t, "Basis", b, e, blank(0, m.Cols))
	}
}

// Greater matrices, by which the numbers would explode without care.
func TestGreatMatrices(t *testing.T) { // P12.1, P12.2
	r := rand.New(rand.NewSource(2))
	for _, c := range [][2]int{{25, 25}, {40, 6}, {6, 40}, {20, 25}} {
		m := api.ZMatrix{Rows: c[0], Cols: c[1]}
		for range m.Rows * m.Cols {
			m.A = append(m.A, bigint.Of(r.Intn(19)-9))
		}
		h, u, e := lattice.Hermite(m)
		checkHermite(t, h)
		checkUnimodular(t, u, m.Rows)
		check(t, "Hermite", h, e, mul(toTable(u), toTable(m)))
		d, u, v, e := lattice.Smith(m)
		checkUnimodular(t, u, m.Rows)
		checkUnimodular(t, v, m.Cols)
		check(t, "Smith", d, e, mul(mul(toTable(u), toTable(m)), toTable(v)))
		checkSmith(t, d)
		for _, x := range slices.Concat(h.A, u.A, v.A) {
			if bigint.Bits(x) > 400 {
				t.Fatal("great numbers", c, bigint.Bits(x))
			}
		}
	}
	one := api.ZMatrix{Rows: 1024, Cols: 1024, A: make([]api.Int, 1<<20)}
	for i := range 1024 {
		one.A[i*1025] = bigint.Of(1 - i%2*2)
	}
	if h, u, e := lattice.Hermite(one); e != api.OK || text(h.A[1025:1026]) != text(integers(1)) || text(u.A) != text(one.A) {
		t.Error(e)
	}
}

// checkSmith reports a matrix that is not in Smith normal form.
func checkSmith(t *testing.T, d api.ZMatrix) {
	t.Helper()
	rows := toTable(d).rows
	before := big.NewInt(1)
	for i, row := range rows {
		for j, x := range row {
			if i != j && x.Sign() != 0 {
				t.Fatal("not diagonal", d)
			}
			if i != j {
				continue
			}
			if x.Sign() < 0 || before.Sign() == 0 && x.Sign() != 0 || before.Sign() != 0 && new(big.Int).Rem(x, before).Sign() != 0 {
				t.Fatal("not in Smith normal form", d)
			}
			before = x
		}
	}
}

func TestSmith(t *testing.T) { // P12.2, P12.6
	various(3, 300, func(r *rand.Rand, m api.ZMatrix) {
		d, u, v, e := lattice.Smith(m)
		check(t, "Smith", d, e, toTable(d))
		checkUnimodular(t, u, m.Rows)
		checkUnimodular(t, v, m.Cols)
		check(t, "Smith", d, e, mul(mul(toTable(u), toTable(m)), toTable(v)))
		checkSmith(t, d)
		l, e := lattice.Divisors(m)
		if e != api.OK || len(l) != rankOf(toTable(m)) {
			t.Fatal("Divisors", m, l, e)
		}
		want := big.NewInt(1)
		for k, x := range l {
			if bigint.Cmp(x, d.A[k*m.Cols+k]) != 0 || !normalized(x) {
				t.Fatal("Divisors", m, l, d)
			}
			want.Mul(want, toInt(x))
			if minorsOf(toTable(m), k+1).Cmp(want) != 0 {
				t.Fatal("minors", m, l)
			}
		}
		checkMemory(t, "Smith", slices.Concat(d.A, u.A, v.A))
		checkMemory(t, "Divisors", l)
	})
	for _, c := range []struct {
		m    api.ZMatrix
		want []int
	}{
		{of(2, []int{2, 4}, []int{6, 8}), []int{2, 4}}, {of(2, []int{0, 0}, []int{0, 0}), nil}, {api.ZMatrix{Cols: 3}, nil}, {api.ZMatrix{Rows: 3}, nil}, {of(3, []int{0, 0, -5}), []int{5}},
		{of(3, []int{4, 0, 0}, []int{0, 6, 0}, []int{0, 0, 10}), []int{2, 2, 60}}, {of(2, []int{0, 3}, []int{2, 0}), []int{1, 6}}, {of(1, []int{0}, []int{0}, []int{7}), []int{7}},
		{of(4, []int{2, 0, 0, 0}, []int{0, 3, 0, 0}, []int{0, 0, 5, 0}, []int{0, 0, 0, 7}), []int{1, 1, 1, 210}},
	} {
		l, e := lattice.Divisors(c.m)
		if e != api.OK || text(l) != text(integers(c.want...)) {
			t.Error(c, l, e)
		}
		d, u, v, e := lattice.Smith(c.m)
		check(t, "Smith", d, e, mul(mul(toTable(u), toTable(c.m)), toTable(v)))
		checkSmith(t, d)
		checkUnimodular(t, u, c.m.Rows)
		checkUnimodular(t, v, c.m.Cols)
	}
}

func TestElements(t *testing.T) { // P12.3
	various(4, 400, func(r *rand.Rand, m api.ZMatrix) {
		in := product(random(r, 1, m.Rows), m)
		near := api.ZMatrix{Rows: 1, Cols: m.Cols, A: slices.Clone(in.A)}
		if m.Cols > 0 {
			j := r.Intn(m.Cols)
			near.A[j] = bigint.Add(near.A[j], bigint.Of(1))
		}
		for i, v := range []api.ZMatrix{in, near, random(r, 1, m.Cols), {Rows: 1, Cols: m.Cols, A: make([]api.Int, m.Cols)}} {
			// A vector is in the lattice exactly if it adds nothing to it.
			before, _ := lattice.Basis(m)
			after, _ := lattice.Basis(stack(m, v))
			want := text(before.A) == text(after.A)
			if ok, e := lattice.Contains(m, v.A); ok != want || e != api.OK || i%3 == 0 && !ok {
				t.Fatal("Contains", m, v, ok, e)
			}
			x, e := lattice.Solve(m, v.A)
			if !want {
				if e != api.ErrSingular || len(x) != 0 {
					t.Fatal("Solve", m, v, x, e)
				}
				continue
			}
			row := api.ZMatrix{Rows: 1, Cols: m.Rows, A: x}
			check(t, "Solve", row, e, toTable(row))
			check(t, "x * m", product(row, m), e, toTable(v))
			checkMemory(t, "Solve", x)
		}
	})
	m := of(2, []int{2, 0}, []int{0, 3})
	for _, c := range []struct {
		v    []int
		want bool
	}{{[]int{0, 0}, true}, {[]int{2, 3}, true}, {[]int{-4, 9}, true}, {[]int{1, 3}, false}, {[]int{2, 2}, false}} {
		if ok, e := lattice.Contains(m, integers(c.v...)); ok != c.want || e != api.OK {
			t.Error(c, ok, e)
		}
	}
	x, e := lattice.Solve(m, []api.Int{{Neg: true, Mag: []uint32{4, 0}}, minusZero})
	if e != api.OK || text(x) != text(integers(-2, 0)) {
		t.Error(x, e)
	}
	if x, e := lattice.Solve(api.ZMatrix{Rows: 2}, nil); e != api.OK || len(x) != 2 {
		t.Error(x, e)
	}
	if x, e := lattice.Solve(api.ZMatrix{Cols: 1}, integers(1)); e != api.ErrSingular || len(x) != 0 {
		t.Error(x, e)
	}
}

func TestSaturate(t *testing.T) { // P12.4, P12.6
	various(5, 300, func(r *rand.Rand, m api.ZMatrix) {
		s, e := lattice.Saturate(m)
		check(t, "Saturate", s, e, toTable(s))
		checkHermite(t, s)
		// A lattice of the same rank is saturated if its elementary divisors are 1.
		rank := rankOf(toTable(m))
		divisors, _ := lattice.Divisors(s)
		if s.Rows != rank || len(divisors) != rank {
			t.Fatal("Saturate", m, s)
		}
		for _, x := range divisors {
			if bigint.Cmp(x, bigint.Of(1)) != 0 {
				t.Fatal("Saturate", m, s, divisors)
			}
		}
		want := bigint.Of(1)
		divisors, _ = lattice.Divisors(m)
		for _, x := range divisors {
			want = bigint.Mul(want, x)
		}
		if index, e := lattice.Index(m, s); e != api.OK || bigint.Cmp(index, want) != 0 {
			t.Fatal("Index", m, s, index, e)
		}
		checkMemory(t, "Saturate", s.A)
	})
	s, e := lattice.Saturate(of(3, []int{2, 4, 6}))
	check(t, "Saturate", s, e, toTable(of(3, []int{1, 2, 3})))
	s, e = lattice.Saturate(of(3, []int{2, 3, 1}, []int{0, 5, 5}))
	check(t, "Saturate", s, e, toTable(of(3, []int{1, 0, -1}, []int{0, 1, 1})))
}

func TestIndex(t *testing.T) { // P12.4, P12.6
	various(6, 300, func(r *rand.Rand, m api.ZMatrix) {
		b, _ := lattice.Basis(m)
		square := random(r, b.Rows, b.Rows)
		part := product(square, b)
		index, e := lattice.Index(part, m)
		if want := new(big.Int).Abs(detOf(toTable(square))); e != api.OK || toInt(index).Cmp(want) != 0 || !normalized(index) {
			t.Fatal("Index", part, m, index, e)
		}
		// The indices of a chain are multiplied.
		small := product(random(r, b.Rows, b.Rows), part)
		first, e := lattice.Index(small, part)
		all, f := lattice.Index(small, m)
		if e != api.OK || f != api.OK || bigint.Sign(index) != 0 && bigint.Cmp(bigint.Mul(first, index), all) != 0 {
			t.Fatal("chain", small, part, m, first, index, all)
		}
		other := random(r, 2, m.Cols)
		in := true
		for i := range 2 {
			ok, _ := lattice.Contains(m, other.A[i*m.Cols:(i+1)*m.Cols])
			in = in && ok
		}
		if n, e := lattice.Index(other, m); in != (e == api.OK) || !in && (e != api.ErrMember || len(n.Mag) != 0) {
			t.Fatal("Index", other, m, n, e)
		}
	})
	one := of(2, []int{1, 0}, []int{0, 1})
	for _, c := range []struct {
		sub, sup api.ZMatrix
		want     int
		e        api.Errno
	}{
		{of(2, []int{2, 0}, []int{0, 3}), one, 6, api.OK}, {one, one, 1, api.OK}, {of(2, []int{2, 0}), one, 0, api.OK}, {api.ZMatrix{Cols: 2}, one, 0, api.OK}, {api.ZMatrix{Cols: 2}, of(2, []int{0, 0}), 1, api.OK},
		{one, of(2, []int{2, 0}, []int{0, 3}), 0, api.ErrMember}, {one, of(2, []int{1, 0}), 0, api.ErrMember}, {api.ZMatrix{Rows: 3}, api.ZMatrix{Rows: 1}, 1, api.OK}, {of(2, []int{0, 1}), of(2, []int{1, 0}), 0, api.ErrMember},
	} {
		if n, e := lattice.Index(c.sub, c.sup); e != c.e || bigint.Cmp(n, bigint.Of(c.want)) != 0 {
			t.Error(c, n, e)
		}
	}
}

func TestIntersect(t *testing.T) { // P12.4
	various(7, 400, func(r *rand.Rand, m api.ZMatrix) {
		other := random(r, r.Intn(5), m.Cols)
		if r.Intn(2) == 0 {
			other = stack(product(random(r, 2, m.Rows), m), other)
		}
		meet, e := lattice.Intersect(m, other)
		check(t, "Intersect", meet, e, toTable(meet))
		checkHermite(t, meet)
		sum, _ := lattice.Basis(stack(m, other))
		a, _ := lattice.Basis(m)
		b, _ := lattice.Basis(other)
		if meet.Rows+sum.Rows != a.Rows+b.Rows {
			t.Fatal("ranks", m, other, meet)
		}
		// The quotients of the sum by one lattice, and of the other one by the intersection, are isomorphic.
		first, e := lattice.Index(meet, m)
		second, f := lattice.Index(other, sum)
		if e != api.OK || f != api.OK || bigint.Cmp(first, second) != 0 {
			t.Fatal("Intersect", m, other, meet, first, second)
		}
		if _, e := lattice.Index(meet, other); e != api.OK {
			t.Fatal("Intersect", m, other, meet)
		}
		checkMemory(t, "Intersect", meet.A)
	})
	meet, e := lattice.Intersect(of(2, []int{2, 0}, []int{0, 1}), of(2, []int{1, 0}, []int{0, 3}))
	check(t, "Intersect", meet, e, toTable(of(2, []int{2, 0}, []int{0, 3})))
	meet, e = lattice.Intersect(of(2, []int{1, 0}), of(2, []int{0, 1}))
	check(t, "Intersect", meet, e, blank(0, 2))
	meet, e = lattice.Intersect(of(1, []int{4}), of(1, []int{6}, []int{9}))
	check(t, "Intersect", meet, e, toTable(of(1, []int{12})))
}

func TestDet(t *testing.T) { // P12.5, P12.6
	r := rand.New(rand.NewSource(8))
	for i := range 200 {
		n := i % 6
		m := random(r, n, n)
		want := detOf(toTable(m))
		det, e := lattice.Det(m)
		if e != api.OK || !normalized(det) || toInt(det).Cmp(want) != 0 {
			t.Fatal("Det", m, det, e)
		}
		l, _ := lattice.Divisors(m)
		whole, _ := lattice.Basis(unimodular(r, n))
		if index, e := lattice.Index(m, whole); e != api.OK || toInt(index).CmpAbs(want) != 0 {
			t.Fatal("Index", m, index, e)
		}
		volume := big.NewInt(1)
		for _, x := range l {
			volume.Mul(volume, toInt(x))
		}
		if len(l) == n && volume.CmpAbs(want) != 0 || len(l) < n && want.Sign() != 0 {
			t.Fatal("Divisors", m, l, want)
		}
	}
	if det, e := lattice.Det(of(2, []int{1, 2}, []int{3, 4})); e != api.OK || bigint.Cmp(det, bigint.Of(-2)) != 0 {
		t.Error(det, e)
	}
	if det, e := lattice.Det(api.ZMatrix{}); e != api.OK || bigint.Cmp(det, bigint.Of(1)) != 0 {
		t.Error(det, e)
	}
}

func TestErrors(t *testing.T) { // the first error of every function
	good := of(2, []int{1, 2}, []int{3, 4}, []int{5, 6})
	wrong := func(name string, e api.Errno, l ...api.ZMatrix) {
		t.Helper()
		if e != api.ErrShape || !isZero(stackAll(l)) {
			t.Error(name, l, e)
		}
	}
	for _, m := range malformed() {
		h, u, e := lattice.Hermite(m)
		wrong("Hermite", e, h, u)
		d, u, v, e := lattice.Smith(m)
		wrong("Smith", e, d, u, v)
		l, e := lattice.Divisors(m)
		wrong("Divisors", e, api.ZMatrix{A: l})
		b, e := lattice.Basis(m)
		wrong("Basis", e, b)
		b, e = lattice.Saturate(m)
		wrong("Saturate", e, b)
		for _, n := range []int{0, 1, 2} {
			in, e := lattice.Contains(m, make([]api.Int, n))
			wrong("Contains", e)
			if in {
				t.Error("Contains", m)
			}
			x, e := lattice.Solve(m, make([]api.Int, n))
			wrong("Solve", e, api.ZMatrix{A: x})
		}
		for _, p := range [][2]api.ZMatrix{{m, good}, {good, m}, {m, m}} {
			b, e := lattice.Intersect(p[0], p[1])
			wrong("Intersect", e, b)
			n, e := lattice.Index(p[0], p[1])
			wrong("Index", e, api.ZMatrix{Rows: len(n.Mag)})
		}
		n, e := lattice.Det(m)
		wrong("Det", e, api.ZMatrix{Rows: len(n.Mag)})
	}
	for _, n := range []int{0, 1, 3} {
		if in, e := lattice.Contains(good, make([]api.Int, n)); in || e != api.ErrShape {
			t.Error(n, in, e)
		}
		if x, e := lattice.Solve(good, make([]api.Int, n)); len(x) != 0 || e != api.ErrShape {
			t.Error(n, x, e)
		}
	}
	b, e := lattice.Intersect(good, of(3, []int{1, 2, 3}))
	wrong("Intersect", e, b)
	n, e := lattice.Index(of(3, []int{1, 2, 3}), good)
	wrong("Index", e, api.ZMatrix{Rows: len(n.Mag)})
	for _, m := range []api.ZMatrix{good, {Rows: 1}, {Cols: 1}} {
		n, e := lattice.Det(m)
		wrong("Det", e, api.ZMatrix{Rows: len(n.Mag)})
	}
}

// stackAll returns a matrix with all of the rows and elements.
func stackAll(l []api.ZMatrix) api.ZMatrix {
	var m api.ZMatrix
	for _, x := range l {
		m.Rows += x.Rows
		m.Cols += x.Cols
		m.A = append(m.A, x.A...)
	}
	return m
}

// Nothing is written into an argument, and no result shares memory with one.
func TestMemory(t *testing.T) { // R3
	various(9, 150, func(r *rand.Rand, m api.ZMatrix) {
		other := random(r, 2, m.Cols)
		square := random(r, 3, 3)
		v := product(random(r, 1, m.Rows), m).A
		before := text(slices.Concat(m.A, other.A, square.A, v))
		h, u, _ := lattice.Hermite(m)
		d, w, x, _ := lattice.Smith(m)
		l, _ := lattice.Divisors(m)
		b, _ := lattice.Basis(m)
		s, _ := lattice.Saturate(m)
		meet, _ := lattice.Intersect(m, other)
		y, _ := lattice.Solve(m, v)
		det, _ := lattice.Det(square)
		lattice.Contains(m, v)
		index, _ := lattice.Index(m, s)
		checkMemory(t, "all results", slices.Concat(h.A, u.A, d.A, w.A, x.A, l, b.A, s.A, meet.A, y, []api.Int{det, index}))
		if text(slices.Concat(m.A, other.A, square.A, v)) != before {
			t.Fatal("an argument was changed")
		}
	})
}
