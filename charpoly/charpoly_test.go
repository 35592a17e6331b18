package charpoly_test

import (
	"math/big"
	"math/rand"
	"slices"
	"testing"

	"halfplane/api"
	"halfplane/bigint"
	"halfplane/charpoly"
	"halfplane/factor"
	"halfplane/matrix"
	"halfplane/qpoly"
	"halfplane/rational"
	"halfplane/subspace"
	"halfplane/zpoly"
)

// polynomial returns the coefficients as fractions of the tests' own arithmetic.
func polynomial(f api.Poly) []*big.Rat {
	l := make([]*big.Rat, len(f))
	for i, x := range f {
		l[i] = toRat(x)
	}
	return l
}

// traces returns the characteristic polynomial by Faddeev and Leverrier: with m = 1 and
// c = 1 at the beginning, m becomes a m + c and c becomes -trace(a m) / k.
func traces(a table) []*big.Rat {
	n := a.cols
	f := make([]*big.Rat, n+1)
	f[n] = big.NewRat(1, 1)
	m := blank(n, n)
	for k := 1; k <= n; k++ {
		m = mul(a, m)
		for i := range n {
			m.rows[i][i].Add(m.rows[i][i], f[n-k+1])
		}
		c := new(big.Rat)
		for i, row := range mul(a, m).rows {
			c.Add(c, row[i])
		}
		f[n-k] = c.Mul(c, big.NewRat(-1, int64(k)))
	}
	return f
}

// value returns f(a) by sums of powers.
func value(f []*big.Rat, a table) table {
	sum := blank(a.cols, a.cols)
	power := unit(a.cols)
	for _, c := range f {
		for i, row := range power.rows {
			for j, x := range row {
				sum.rows[i][j].Add(sum.rows[i][j], new(big.Rat).Mul(c, x))
			}
		}
		power = mul(power, a)
	}
	return sum
}

// checkPoly reports a polynomial that is not normalized or not the one expected.
func checkPoly(t *testing.T, what string, got api.Poly, e api.Errno, want []*big.Rat) {
	t.Helper()
	checkRow(t, what, got, e, want)
}

// square returns a random matrix with n rows; if double, with two equal blocks, so that
// the minimal polynomial has a smaller degree.
func square(r *rand.Rand, n int, double bool) api.Matrix {
	if !double {
		return random(r, n, n)
	}
	b := random(r, n/2, n/2)
	m, _ := matrix.New(n, n)
	for i := range b.Rows {
		for j := range b.Cols {
			m.A[i*n+j] = b.A[i*b.Cols+j]
			m.A[(i+n/2)*n+j+n/2] = b.A[i*b.Cols+j]
		}
	}
	c := random(r, n, n)
	inverse, e := matrix.Inverse(c)
	if e != api.OK {
		return m
	}
	m, _ = matrix.Mul(inverse, m)
	m, _ = matrix.Mul(m, c)
	return m
}

func TestCharPoly(t *testing.T) { // P11.1, P11.4
	r := rand.New(rand.NewSource(1))
	for i := range 200 {
		n := i % 7
		if i%5 == 0 {
			n = 8 + r.Intn(5)
		}
		a := square(r, n, i%4 == 0)
		f, e := charpoly.CharPoly(a)
		checkPoly(t, "CharPoly", f, e, traces(toTable(a)))
		zero, e := charpoly.At(f, a)
		check(t, "CharPoly(a) at a", zero, e, blank(n, n))
		b := random(r, n, n)
		left, _ := matrix.Mul(a, b)
		right, _ := matrix.Mul(b, a)
		g, _ := charpoly.CharPoly(left)
		h, _ := charpoly.CharPoly(right)
		if text(g) != text(h) {
			t.Fatal("products", a, b)
		}
		sums, _ := qpoly.PowerSums(f, n)
		power := a
		for _, s := range sums {
			trace, _ := matrix.Trace(power)
			checkRat(t, "power sum", s, toRat(trace))
			power, _ = matrix.Mul(power, a)
		}
		checkMemory(t, "CharPoly", f)
	}
	f, e := charpoly.CharPoly(of(2, []int{1, 2}, []int{3, 4}))
	checkPoly(t, "CharPoly", f, e, polynomial(parse("-2 -5 1")))
	f, e = charpoly.CharPoly(api.Matrix{})
	checkPoly(t, "CharPoly", f, e, polynomial(parse("1")))
	// The greatest matrices: coefficients of both signs, and (x - 2)^64.
	for _, n := range []int{9, 64} {
		m, _ := matrix.Identity(n)
		m, _ = matrix.Scale(m, rational.Of(2))
		want := api.Poly{rational.Of(1)}
		for range n {
			want = qpoly.Mul(want, api.Poly{rational.Of(-2), rational.Of(1)})
		}
		f, e := charpoly.CharPoly(m)
		checkPoly(t, "CharPoly", f, e, polynomial(want))
		f, e = charpoly.MinPoly(m)
		checkPoly(t, "MinPoly", f, e, polynomial(parse("-2 1")))
	}
}

// minimal returns the monic polynomial of least degree with f(a) = 0: the first power
// that is a combination of the ones before it.
func minimal(a table) []*big.Rat {
	n := a.cols
	powers := table{cols: n * n}
	power := unit(n)
	for {
		var row []*big.Rat
		for _, l := range power.rows {
			row = append(row, l...)
		}
		powers.rows = append(powers.rows, row)
		if m, pivots := reduce(transpose(powers)); len(pivots) < len(powers.rows) {
			f := make([]*big.Rat, len(powers.rows))
			for i := range pivots {
				f[i] = new(big.Rat).Neg(m.rows[i][len(pivots)])
			}
			f[len(pivots)] = big.NewRat(1, 1)
			return f
		}
		power = mul(power, a)
	}
}

func TestMinPoly(t *testing.T) { // P11.1, P11.4
	r := rand.New(rand.NewSource(2))
	for i := range 150 {
		n := i % 7
		a := square(r, n-n%2*(i%3), i%3 > 0)
		if i%10 == 0 {
			a = square(r, 10, true)
		}
		f, e := charpoly.MinPoly(a)
		checkPoly(t, "MinPoly", f, e, minimal(toTable(a)))
		g, _ := charpoly.CharPoly(a)
		if _, rest, _ := qpoly.DivMod(g, f); len(rest) > 0 {
			t.Fatal("MinPoly does not divide CharPoly", a)
		}
		p, _ := qpoly.Clear(f)
		q, _ := qpoly.Clear(g)
		_, l, _ := factor.Factor(p)
		_, m, e := factor.Factor(q)
		if e != api.OK || len(l) != len(m) {
			t.Fatal("factors", a, l, m)
		}
		for j := range l {
			if zpoly.Format(l[j].Poly) != zpoly.Format(m[j].Poly) || l[j].Exp > m[j].Exp {
				t.Fatal("factors", a, l, m)
			}
		}
		checkMemory(t, "MinPoly", f)
	}
	for _, c := range []struct {
		m    api.Matrix
		want string
	}{
		{of(3, []int{1, 0, 0}, []int{0, 1, 0}, []int{0, 0, 1}), "-1 1"}, {api.Matrix{}, "1"}, {of(1, []int{0}), "0 1"}, {of(2, []int{0, 1}, []int{0, 0}), "0 0 1"}, {of(2, []int{0, 0}, []int{0, 0}), "0 1"},
		{of(3, []int{1, 0, 0}, []int{0, 2, 0}, []int{0, 0, 1}), "2 -3 1"}, {of(3, []int{0, 1, 0}, []int{0, 0, 0}, []int{0, 0, 1}), "0 0 -1 1"},
	} {
		f, e := charpoly.MinPoly(c.m)
		checkPoly(t, "MinPoly", f, e, polynomial(parse(c.want)))
	}
}

func TestAnnihilator(t *testing.T) { // P11.1
	r := rand.New(rand.NewSource(3))
	for i := range 200 {
		n := i % 6
		a := square(r, n-n%2*(i%2), i%2 > 0)
		if i%20 == 0 {
			a = square(r, 10, true)
		}
		v := random(r, 1, a.Rows)
		if i%7 == 0 {
			v, _ = matrix.New(1, a.Rows)
		}
		f, e := charpoly.Annihilator(a, v.A)
		// The images of v: that of the degree is the first that is a combination of those before.
		images := table{cols: a.Rows}
		w := toTable(v)
		for range f {
			images.rows = append(images.rows, w.rows[0])
			w = mul(w, toTable(a))
		}
		_, pivots := reduce(images)
		if len(f) == 0 || len(pivots) != len(f)-1 {
			t.Fatal("degree", a, v, f)
		}
		checkPoly(t, "Annihilator", f, e, append(polynomial(f[:len(f)-1]), big.NewRat(1, 1)))
		m, _ := charpoly.At(f, a)
		zero, e := matrix.Apply(v.A, m)
		checkRow(t, "v * f(a)", zero, e, blank(1, a.Rows).rows[0])
		checkMemory(t, "Annihilator", f)
	}
	f, e := charpoly.Annihilator(of(2, []int{1, 1}, []int{0, 2}), parse("0 1"))
	checkPoly(t, "Annihilator", f, e, polynomial(parse("-2 1")))
	f, e = charpoly.Annihilator(of(2, []int{1, 1}, []int{0, 2}), make([]api.Rat, 2))
	checkPoly(t, "Annihilator", f, e, polynomial(parse("1")))
	f, e = charpoly.Annihilator(api.Matrix{}, nil)
	checkPoly(t, "Annihilator", f, e, polynomial(parse("1")))
}

func TestAt(t *testing.T) { // P11.2
	r := rand.New(rand.NewSource(4))
	for i := range 200 {
		a := random(r, i%6, i%6)
		f := api.Poly(random(r, 1, r.Intn(7)).A)
		m, e := charpoly.At(f, a)
		check(t, "At", m, e, value(polynomial(f), toTable(a)))
		checkMemory(t, "At", m.A)
	}
	two := of(2, []int{1, 1}, []int{0, 1})
	long := make(api.Poly, 66)
	long[64] = rational.Of(1)
	m, e := charpoly.At(long, two)
	check(t, "At", m, e, toTable(of(2, []int{1, 64}, []int{0, 1})))
	long[65] = api.Rat{Num: minusZero, Den: bigint.Of(3)}
	m, e = charpoly.At(long, two)
	check(t, "At", m, e, toTable(of(2, []int{1, 64}, []int{0, 1})))
	long[65] = rational.Of(1)
	if m, e := charpoly.At(long, two); e != api.ErrLarge || m.Rows+m.Cols+len(m.A) != 0 {
		t.Error(m, e)
	}
	m, e = charpoly.At(nil, two)
	check(t, "At", m, e, blank(2, 2))
	m, e = charpoly.At(parse("7"), two)
	check(t, "At", m, e, toTable(of(2, []int{7, 0}, []int{0, 7})))
}

func TestCompanion(t *testing.T) { // P11.2, P11.4
	r := rand.New(rand.NewSource(5))
	for i := range 150 {
		f := append(api.Poly(random(r, 1, 1+i%9).A), randomRat(r, 2), rational.Of(0), api.Rat{Num: bigint.Of(5)})
		n := qpoly.Degree(f)
		m, e := charpoly.Companion(f)
		if n < 1 {
			if e != api.ErrRange || m.Rows+m.Cols+len(m.A) != 0 {
				t.Fatal(f, m, e)
			}
			continue
		}
		monic := polynomial(qpoly.Normal(f))
		lead := monic[n]
		for j, c := range monic {
			monic[j] = new(big.Rat).Quo(c, lead)
		}
		want := blank(n, n)
		for j := range n {
			if j+1 < n {
				want.rows[j][j+1].SetInt64(1)
			}
			want.rows[n-1][j].Neg(monic[j])
		}
		check(t, "Companion", m, e, want)
		g, e := charpoly.CharPoly(m)
		checkPoly(t, "CharPoly", g, e, monic)
		g, e = charpoly.MinPoly(m)
		checkPoly(t, "MinPoly", g, e, monic)
		checkMemory(t, "Companion", m.A)
	}
	m, e := charpoly.Companion(parse("-4 0 2"))
	check(t, "Companion", m, e, toTable(of(2, []int{0, 1}, []int{2, 0})))
	m, e = charpoly.Companion(parse("3 6"))
	check(t, "Companion", m, e, toTable(api.Matrix{Rows: 1, Cols: 1, A: parse("-1/2")}))
	long := make(api.Poly, 66)
	long[0], long[64] = rational.Of(-1), rational.Of(1)
	if m, e := charpoly.Companion(long); e != api.OK || m.Rows != 64 {
		t.Error(e)
	}
	long[65] = rational.Of(1)
	for _, f := range []api.Poly{nil, parse("0 0"), parse("5"), {rational.Of(2), api.Rat{}}, long} {
		if m, e := charpoly.Companion(f); e != api.ErrRange || m.Rows+m.Cols+len(m.A) != 0 {
			t.Error(f, m, e)
		}
	}
}

// blocks returns a matrix that is similar to one with the companion matrices of powers
// of small polynomials as blocks.
func blocks(r *rand.Rand) api.Matrix {
	var l []api.Matrix
	n := 0
	for range 1 + r.Intn(3) {
		f := []api.Poly{parse("-1 1"), parse("0 1"), parse("1 0 1"), parse("-1 -1 1"), parse("-2 0 3"), parse("1/2 1"), parse("-2 0 0 1")}[r.Intn(7)]
		power := f
		for range r.Intn(3) {
			power = qpoly.Mul(power, f)
		}
		m, _ := charpoly.Companion(power)
		l = append(l, m)
		n += m.Rows
	}
	a, _ := matrix.New(n, n)
	at := 0
	for _, m := range l {
		for i, x := range m.A {
			a.A[(at+i/m.Cols)*n+at+i%m.Cols] = x
		}
		at += m.Rows
	}
	c := random(r, n, n)
	inverse, e := matrix.Inverse(c)
	if e != api.OK {
		return a
	}
	a, _ = matrix.Mul(inverse, a)
	a, _ = matrix.Mul(a, c)
	return a
}

func TestPrimary(t *testing.T) { // P11.3, P11.4
	r := rand.New(rand.NewSource(6))
	for range 60 {
		a := blocks(r)
		checkComponents(t, a)
	}
	for i := range 20 {
		checkComponents(t, random(r, i%5, i%5))
	}
	l, e := charpoly.Primary(of(2, []int{1, 1}, []int{0, 2}))
	if e != api.OK || len(l) != 2 || zpoly.Format(l[0].Poly) != "x - 2" || zpoly.Format(l[1].Poly) != "x - 1" || l[0].Exp != 1 || l[1].Exp != 1 {
		t.Fatal(l, e)
	}
	check(t, "component", l[0].Space.Basis, e, toTable(of(2, []int{0, 1})))
	check(t, "component", l[1].Space.Basis, e, toTable(of(2, []int{1, -1})))
	if l, e := charpoly.Primary(api.Matrix{}); e != api.OK || len(l) != 0 {
		t.Error(l, e)
	}
	one, _ := matrix.Identity(32)
	if l, e := charpoly.Primary(one); e != api.OK || len(l) != 1 || l[0].Exp != 32 || l[0].Space.Basis.Rows != 32 {
		t.Error(l, e)
	}
	// Too large for a factorization, by the degree or by the coefficients.
	one, _ = matrix.Identity(33)
	huge, _ := bigint.Pow(bigint.Of(2), 4097)
	for _, a := range []api.Matrix{one, {Rows: 1, Cols: 1, A: []api.Rat{rational.Whole(huge)}}, {Rows: 1, Cols: 1, A: []api.Rat{{Num: bigint.Of(1), Den: huge}}}} {
		if l, e := charpoly.Primary(a); e != api.ErrLarge || len(l) != 0 {
			t.Error(l, e)
		}
	}
}

// checkComponents checks the primary decomposition of a.
func checkComponents(t *testing.T, a api.Matrix) {
	t.Helper()
	f, _ := charpoly.CharPoly(a)
	p, _ := qpoly.Clear(f)
	_, factors, _ := factor.Factor(p)
	l, e := charpoly.Primary(a)
	if e != api.OK || len(l) != len(factors) {
		t.Fatal(a, l, e)
	}
	sum, _ := subspace.Zero(a.Rows)
	dim := 0
	for i, c := range l {
		if zpoly.Format(c.Poly) != zpoly.Format(factors[i].Poly) || c.Exp != factors[i].Exp || subspace.Check(c.Space) != api.OK || c.Space.Dim != a.Rows {
			t.Fatal(a, c, factors[i])
		}
		check(t, "component", c.Space.Basis, e, toTable(c.Space.Basis))
		// On the component the characteristic polynomial is the power of the factor.
		m, e := subspace.Restrict(c.Space, a)
		if e != api.OK || m.Rows != c.Exp*zpoly.Degree(c.Poly) {
			t.Fatal("not invariant", a, c, e)
		}
		g, _ := charpoly.CharPoly(m)
		want := api.Poly{rational.Of(1)}
		for range c.Exp {
			want = qpoly.Mul(want, qpoly.Of(c.Poly))
		}
		q, _ := qpoly.Clear(g)
		power, _ := qpoly.Clear(want)
		if zpoly.Format(q) != zpoly.Format(power) {
			t.Fatal("on a component", a, c)
		}
		dim += m.Rows
		sum, _ = subspace.Sum(sum, c.Space)
	}
	if dim != a.Rows || sum.Basis.Rows != a.Rows {
		t.Fatal("the components are not independent", a, l)
	}
}

func TestErrors(t *testing.T) { // the first error of every function
	large, _ := matrix.Identity(65)
	greatest, _ := matrix.Identity(64)
	long := make(api.Poly, 70)
	long[69] = rational.Of(1)
	shapes := []api.Matrix{{Rows: 1, Cols: 1}, {Rows: -1, Cols: -1, A: parse("1")}, {Rows: 2}, of(3, []int{1, 2, 3}), {Rows: 1025, Cols: 1025}, {Rows: 65, Cols: 66, A: make([]api.Rat, 65*66)}}
	for _, a := range append(shapes, large) {
		want := api.ErrShape
		if a.Rows == 65 && a.Cols == 65 {
			want = api.ErrLarge
		}
		if f, e := charpoly.CharPoly(a); e != want || len(f) != 0 {
			t.Error("CharPoly", a.Rows, a.Cols, f, e)
		}
		if f, e := charpoly.MinPoly(a); e != want || len(f) != 0 {
			t.Error("MinPoly", a.Rows, a.Cols, f, e)
		}
		for _, f := range []api.Poly{nil, long} {
			if m, e := charpoly.At(f, a); e != want || m.Rows+m.Cols+len(m.A) != 0 {
				t.Error("At", a.Rows, a.Cols, m, e)
			}
		}
		if f, e := charpoly.Annihilator(a, make([]api.Rat, max(a.Rows, 0))); e != want || len(f) != 0 {
			t.Error("Annihilator", a.Rows, a.Cols, f, e)
		}
		if l, e := charpoly.Primary(a); e != want || len(l) != 0 {
			t.Error("Primary", a.Rows, a.Cols, l, e)
		}
	}
	for _, n := range []int{0, 63, 65} {
		if f, e := charpoly.Annihilator(greatest, make([]api.Rat, n)); e != api.ErrShape || len(f) != 0 {
			t.Error(n, f, e)
		}
	}
	if f, e := charpoly.Annihilator(large, make([]api.Rat, 64)); e != api.ErrShape || len(f) != 0 {
		t.Error(f, e)
	}
	if f, e := charpoly.Annihilator(greatest, greatest.A[:64]); e != api.OK || len(f) != 2 {
		t.Error(f, e)
	}
}

// Nothing is written into an argument, and no result shares memory with one.
func TestMemory(t *testing.T) { // R3
	r := rand.New(rand.NewSource(7))
	for i := range 40 {
		n := []int{1, 2, 4, 9}[i%4]
		a := square(r, n, i%8 > 3)
		v, f := random(r, 1, n).A, random(r, 1, 4).A
		before := text(slices.Concat(a.A, v, f))
		var results [][]api.Rat
		keep := func(l []api.Rat, _ api.Errno) { results = append(results, l) }
		g, e := charpoly.CharPoly(a)
		keep(g, e)
		g, e = charpoly.MinPoly(a)
		keep(g, e)
		g, e = charpoly.Annihilator(a, v)
		keep(g, e)
		m, e := charpoly.At(f, a)
		keep(m.A, e)
		m, e = charpoly.Companion(f)
		keep(m.A, e)
		l, e := charpoly.Primary(a)
		for _, c := range l {
			polynomial := qpoly.Of(c.Poly)
			keep(c.Space.Basis.A, e)
			for _, x := range c.Poly {
				overwrite(x)
			}
			if text(qpoly.Of(c.Poly)) == text(polynomial) {
				t.Fatal("not written")
			}
		}
		for k, l := range results {
			checkMemory(t, "result "+string(rune('a'+k)), l)
		}
		if text(slices.Concat(a.A, v, f)) != before {
			t.Fatal("an argument was changed")
		}
	}
}
