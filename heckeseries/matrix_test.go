package heckeseries_test

import (
	"math"
	"math/big"
	"math/rand"
	"testing"

	"halfplane/api"
	"halfplane/heckeseries"
	"halfplane/matrix"
	"halfplane/series"
)

// combination returns the sum of c[i] l[i], with the precision prec.
func combination(c []api.Rat, l []api.Series, prec int) api.Series {
	sum := api.Series{From: prec}
	for i, a := range l {
		b, _ := series.Scale(c[i], a)
		sum, _ = series.Add(sum, b)
	}
	return sum
}

// oldforms returns the series in which q of a is replaced by q^d.
func oldforms(a api.Series, l ...int) []api.Series {
	var forms []api.Series
	for _, d := range l {
		b, _ := series.Expand(a, d)
		forms = append(forms, b)
	}
	return forms
}

// product returns q times the product of all (1 - q^n)^e(n).
func product(e func(n int) int64, prec int) api.Series {
	c := make([]api.Rat, prec-2)
	for i := range c {
		c[i] = fraction(e(i+1), 1)
	}
	a, _ := series.Product(1, c)
	return a
}

// eleven returns the exponents of the eta quotient of level 11 and weight 2.
func eleven(n int) int64 {
	if n%11 == 0 {
		return 4
	}
	return 2
}

// twentyFour is the exponent of Delta.
func twentyFour(int) int64 {
	return 24
}

// expectMatrix checks that the matrix of T_n is defined and maps the series as it should.
func expectMatrix(t *testing.T, l []api.Series, s api.Spec, n int) api.Matrix {
	t.Helper()
	m, e := heckeseries.MatrixOn(l, s, n)
	if e != api.OK || m.Rows != len(l) || m.Cols != len(l) || len(m.A) != len(l)*len(l) {
		t.Fatalf("MatrixOn of T_%d: %v, %d", n, m, e)
	}
	prec := 1000
	for _, a := range l {
		prec = min(prec, hecke(laurent{prec: a.From + len(a.Coef)}, s, n).prec)
	}
	for i, a := range l {
		image, _ := heckeseries.Hecke(a, s, n)
		image, _ = series.Cut(image, prec)
		if want := combination(m.A[i*len(l):(i+1)*len(l)], l, prec); !alike(image, want) {
			t.Errorf("row %d of T_%d: %v is not %v", i, n, show(image), show(want))
		}
	}
	for _, x := range m.A {
		if !sameRats([]api.Rat{x}, []api.Rat{fromRat(toRat(x))}) {
			t.Errorf("MatrixOn of T_%d: %v is not normalized", n, x)
		}
	}
	return m
}

func TestMatrixOn(t *testing.T) { // P37.5
	forms := oldforms(product(eleven, 120), 1, 2, 4)
	for _, n := range []int{1, 2, 3, 4, 5, 6, 7, 8, 9, 10, 12} {
		expectMatrix(t, forms, spec(44, 2, 1), n)
	}
	// The matrix of T_2 of level 88 on f(z), f(2z), f(4z) and f(8z): a(2) f(z) - 2 f(2z),
	// f(z), f(2z) and f(4z).
	forms = oldforms(product(eleven, 120), 1, 2, 4, 8)
	got := expectMatrix(t, forms, spec(88, 2, 1), 2)
	want := of(0, -2, -2, 0, 0, 1, 0, 0, 0, 0, 1, 0, 0, 0, 0, 1, 0)
	if !sameRats(got.A, want.Coef) {
		t.Errorf("T_2 of level 88: %v", show(api.Series{Coef: got.A}))
	}
	// Multiples of the series and their sums.
	forms[1], _ = series.Scale(fraction(3, 7), forms[1])
	forms[2], _ = series.Add(forms[2], forms[0])
	expectMatrix(t, forms, spec(88, 2, 1), 2)
	expectMatrix(t, forms, spec(88, 2, 1), 5)
}

func TestMatrixOnPoles(t *testing.T) { // P37.5
	// T_2 of even level takes q^-2n + q^2n to q^-n + q^n.
	var l []api.Series
	for i := 1; i < 7; i++ {
		a, _ := series.Monomial(fraction(1, 1), -1<<i, 300)
		b, _ := series.Monomial(fraction(1, 1), 1<<i, 300-i)
		c, _ := series.Add(a, b)
		l = append(l, c)
	}
	for _, n := range []int{0, -1, 1} {
		a, _ := series.Monomial(fraction(2, 5), n, 299)
		l = append(l, a)
	}
	expectMatrix(t, l, spec(2, 4, 1), 1)
	expectMatrix(t, l, spec(2, 4, 1), 2)
	m, e := heckeseries.MatrixOn(l[:8], spec(2, 4, 1), 2)
	expectError(t, "MatrixOn", m, e, api.ErrMember) // q^-1 + q is missing
	m, e = heckeseries.MatrixOn(l[1:], spec(2, 4, 1), 2)
	expectError(t, "MatrixOn", m, e, api.ErrMember) // q^-2 + q^2 is missing
}

func TestMatrixOnErrors(t *testing.T) { // P37.5
	s := spec(11, 2, 1)
	f := product(eleven, 60)
	g := product(twentyFour, 60)
	check := func(want api.Errno, l []api.Series, n int) {
		t.Helper()
		m, e := heckeseries.MatrixOn(l, s, n)
		expectError(t, "MatrixOn", m, e, want)
	}
	check(api.ErrMember, []api.Series{g}, 2)
	check(api.ErrMember, []api.Series{f, g}, 2)
	check(api.ErrPrec, []api.Series{f, f}, 2)
	check(api.ErrPrec, []api.Series{g, f, g}, 2)
	check(api.ErrPrec, []api.Series{of(60)}, 2)
	check(api.ErrPrec, []api.Series{of(60)}, 1)
	check(api.ErrPrec, []api.Series{f, of(20, 1, 2, 3, 4, 5)}, 2) // 0 below the precision 13
	check(api.ErrPrec, []api.Series{f, g}, 30)                    // both are q + O(q^2)
	check(api.ErrMember, []api.Series{of(0, 1, 5, 3)}, 2)         // T_2 is 3 + 3 q + O(q^2)
	check(api.ErrPrec, []api.Series{f, of(0)}, 2)
	check(api.ErrRange, []api.Series{f, of(-101), of(0)}, 2)
	check(api.ErrPrec, []api.Series{f, of(0), of(-101)}, 2)
	check(api.ErrRange, []api.Series{f, of(0)}, 0)
	check(api.ErrRange, []api.Series{of(0)}, 1001)
	check(api.ErrRange, []api.Series{f}, math.MinInt)
	check(api.ErrRange, []api.Series{of(-2, 1, 0, 0, 0)}, 51)
	long := make([]api.Series, 65)
	check(api.ErrLarge, long, 0)
	check(api.ErrPrec, long[1:], 1)
	check(api.ErrRange, long[1:], 0)
	for _, n := range []int{0, 1, math.MaxInt} {
		m, e := heckeseries.MatrixOn(nil, s, n)
		if e != api.OK || m.Rows != 0 || m.Cols != 0 || len(m.A) != 0 {
			t.Errorf("MatrixOn of no series: %v, %d", m, e)
		}
	}
}

func TestMatrixOnPrecision(t *testing.T) { // P37.5: the least precision of all images counts
	s := spec(11, 2, 1)
	f := product(eleven, 60)
	g := product(twentyFour, 60)
	// A multiple of f and a form that differs from one at q^13 alone.
	wrong, _ := series.Add(f, of(13, append([]int64{1}, make([]int64, 46)...)...))
	for _, c := range []struct {
		prec int
		want api.Errno
	}{{26, api.OK}, {27, api.ErrMember}, {60, api.ErrMember}} {
		short, _ := series.Cut(wrong, c.prec)
		_, e := heckeseries.MatrixOn([]api.Series{short}, s, 2)
		if e != c.want {
			t.Errorf("precision %d: %d, not %d", c.prec, e, c.want)
		}
	}
	// The other element of the list is known up to q^1 alone.
	short, _ := series.Cut(g, 3)
	l := []api.Series{f, of(0, 1, 2, 3)}
	m, e := heckeseries.MatrixOn(l, s, 2)
	if e != api.OK {
		t.Fatalf("MatrixOn: %d", e)
	}
	// T_2 f = -2 f + O(q^2), and T_2 of 1 + 2 q + 3 q^2 is 3 + 3 q + O(q^2).
	if want := of(0, -2, 0, -3, 3); !sameRats(m.A, want.Coef) {
		t.Errorf("MatrixOn: %v", show(api.Series{Coef: m.A}))
	}
	m, e = heckeseries.MatrixOn([]api.Series{f, short}, s, 2)
	expectError(t, "MatrixOn", m, e, api.ErrPrec)
	// The constant term alone.
	m, e = heckeseries.MatrixOn([]api.Series{of(0, 7)}, s, 3)
	if e != api.OK || !sameRats(m.A, of(0, 4).Coef) {
		t.Errorf("MatrixOn of a constant term: %v, %d", m, e)
	}
}

func TestMatrixOnManyExponents(t *testing.T) { // P37.5: more exponents than a matrix has rows
	s := spec(1, 2, 1)
	last := api.Series{From: -100, Coef: make([]api.Rat, 1100)}
	last.Coef[0], last.Coef[1099] = fraction(2, 1), fraction(3, 1)
	first, _ := series.Monomial(fraction(5, 1), -100, 1000)
	m, e := heckeseries.MatrixOn([]api.Series{first, last}, s, 1)
	if e != api.OK || !sameRats(m.A, of(0, 1, 0, 0, 1).Coef) {
		t.Errorf("MatrixOn: %v, %d", m, e)
	}
	last.Coef[1099] = fraction(0, 1)
	m, e = heckeseries.MatrixOn([]api.Series{first, last}, s, 1)
	expectError(t, "MatrixOn", m, e, api.ErrPrec)
	// As many series as there may be, each with all exponents.
	r := rand.New(rand.NewSource(377))
	l := make([]api.Series, 64)
	for i := range l {
		l[i] = api.Series{From: -100, Coef: make([]api.Rat, 1100)}
		for j := range l[i].Coef {
			l[i].Coef[j] = fraction(int64(r.Intn(5)-2), 1)
		}
	}
	m, e = heckeseries.MatrixOn(l, s, 1)
	one, _ := matrix.Identity(64)
	if e != api.OK || !sameRats(m.A, one.A) {
		t.Errorf("MatrixOn of 64 series: %d", e)
	}
	l[40], _ = series.Add(l[3], l[9])
	m, e = heckeseries.MatrixOn(l, s, 1)
	expectError(t, "MatrixOn", m, e, api.ErrPrec)
}

func TestProducts(t *testing.T) { // P37.6: the matrices of products
	s := spec(44, 2, 1)
	l := oldforms(product(eleven, 200), 1, 2, 4)
	for _, pair := range [][2]int{{2, 3}, {3, 3}, {5, 7}, {4, 3}, {2, 2}} {
		a, b := expectMatrix(t, l, s, pair[0]), expectMatrix(t, l, s, pair[1])
		want, _ := matrix.Mul(a, b)
		other, _ := matrix.Mul(b, a)
		got := expectMatrix(t, l, s, pair[0]*pair[1])
		if pair[0] == pair[1] {
			// T_p^2 is T_(p^2) and p^(k-1) chi(p).
			c := fromRat(new(big.Rat).Set(weighted(s, pair[0])))
			one, _ := matrix.Identity(3)
			one, _ = matrix.Scale(one, c)
			got, _ = matrix.Add(got, one)
		}
		if !sameRats(got.A, want.A) || !sameRats(got.A, other.A) {
			t.Errorf("T_%d T_%d: %v, not %v", pair[0], pair[1], got, want)
		}
	}
}
