package levelone_test

import (
	"math"
	"math/big"
	"math/rand"
	"testing"

	"halfplane/api"
	"halfplane/levelone"
	"halfplane/series"
)

func TestFaber(t *testing.T) { // P39.3
	for m := range 21 {
		f, e := levelone.Faber(m)
		if e != api.OK || len(f) != m+1 {
			t.Fatalf("Faber(%d): %v, %d", m, f, e)
		}
		got := ofJ(toRats(f), 1)
		for n := -20; n < 1; n++ {
			want := int64(0)
			if n == -m {
				want = 1
			}
			if got.at(n).Cmp(big.NewRat(want, 1)) != 0 {
				t.Errorf("Faber(%d): the coefficient of q^%d is %v", m, n, got.at(n))
			}
		}
	}
	for _, m := range []int{math.MinInt, -1, 21, math.MaxInt} {
		f, e := levelone.Faber(m)
		expectError(t, "Faber", f, e, api.ErrRange)
	}
}

func TestDuality(t *testing.T) { // P39.4
	var l []api.Series
	for m := range 21 {
		f, _ := levelone.Faber(m)
		a, e := levelone.OfJ(f, 21)
		if e != api.OK {
			t.Fatal(e)
		}
		l = append(l, a)
	}
	for m := 1; m <= 20; m++ {
		for n := 1; n <= 20; n++ {
			x, _ := series.At(l[m], n)
			y, _ := series.At(l[n], m)
			p := new(big.Rat).Mul(big.NewRat(int64(n), 1), toRat(x))
			q := new(big.Rat).Mul(big.NewRat(int64(m), 1), toRat(y))
			if p.Cmp(q) != 0 {
				t.Errorf("the coefficients of P_%d and P_%d", m, n)
			}
		}
	}
}

// randomPolynomial returns a polynomial, perhaps with leading zeros.
func randomPolynomial(r *rand.Rand, degree int) api.Poly {
	f := make(api.Poly, degree+1)
	for i := range f {
		f[i] = randomRat(r)
	}
	return f
}

func TestOfJ(t *testing.T) { // P39.3, P39.4
	r := rand.New(rand.NewSource(393))
	for degree := -1; degree <= 20; degree++ {
		for _, prec := range []int{-100, -21, -20, -19, -7, -2, -1, 0, 1, 2, 9} {
			f := randomPolynomial(r, degree)
			a, e := levelone.OfJ(f, prec)
			want := ofJ(toRats(f), prec)
			expect(t, "OfJ", a, e, want)
			if prec < 1 {
				continue
			}
			g, e := levelone.InJ(a)
			n := len(f)
			for n > 0 && toRat(f[n-1]).Sign() == 0 {
				n--
			}
			if e != api.OK || len(g) != n {
				t.Errorf("InJ: %v, %d", g, e)
				continue
			}
			for i := range g {
				if !sameRats(g[i:i+1], []api.Rat{fromRat(toRat(f[i]))}) {
					t.Errorf("InJ: coefficient %d is %v, not %v", i, g[i], f[i])
				}
			}
		}
	}
	f := append(randomPolynomial(r, 20), make(api.Poly, 10)...)
	f[20] = fraction(1, 1)
	a, e := levelone.OfJ(f, 3)
	expect(t, "OfJ with leading zeros", a, e, ofJ(toRats(f), 3))
}

func TestOfJToTheLimit(t *testing.T) { // P39.3
	for _, c := range []struct{ degree, prec int }{{3, 900}, {6, 150}, {11, 60}} {
		// (j - 744)^n by products, where n is the degree.
		j, _ := levelone.J(c.prec + 20)
		shift, _ := series.Monomial(fraction(-744, 1), 0, 1000)
		linear, _ := series.Add(j, shift)
		want := linear
		for range c.degree - 1 {
			want, _ = series.Mul(want, linear)
		}
		want, _ = series.Cut(want, c.prec)
		f := make(api.Poly, c.degree+1)
		for i := range f {
			x := new(big.Int).Exp(big.NewInt(-744), big.NewInt(int64(c.degree-i)), nil)
			x.Mul(x, new(big.Int).Binomial(int64(c.degree), int64(i)))
			f[i] = fromRat(new(big.Rat).SetInt(x))
		}
		got, e := levelone.OfJ(f, c.prec)
		if e != api.OK || !alike(got, want) {
			t.Errorf("OfJ of degree %d: %d", c.degree, e)
		}
		g, e := levelone.InJ(got)
		if e != api.OK || !sameRats(g, f) {
			t.Errorf("InJ of degree %d: %v, %d", c.degree, g, e)
		}
	}
	top := make(api.Poly, 21)
	top[20] = fraction(1, 1)
	a, e := levelone.OfJ(top, 120)
	c, _ := series.At(a, -19)
	if e != api.OK || a.From != -20 || len(a.Coef) != 140 || toRat(c).Cmp(big.NewRat(20*744, 1)) != 0 {
		t.Errorf("OfJ of j^20: %d, %d, %d", a.From, len(a.Coef), e)
	}
}

func TestOfJErrors(t *testing.T) { // P39.3
	large := make(api.Poly, 22)
	large[21] = fraction(1, 1)
	for _, prec := range []int{0, -101, 901, math.MinInt} {
		a, e := levelone.OfJ(large, prec)
		expectError(t, "OfJ", a, e, api.ErrLarge)
	}
	for _, prec := range []int{math.MinInt, -101, 901, 1000, math.MaxInt} {
		for _, f := range []api.Poly{nil, large[:21], {fraction(1, 1)}, {fraction(1, 1), fraction(2, 1)}} {
			a, e := levelone.OfJ(f, prec)
			expectError(t, "OfJ", a, e, api.ErrRange)
		}
	}
	for _, f := range []api.Poly{nil, make(api.Poly, 30), {fraction(3, 2)}} {
		for _, prec := range []int{-100, -1, 0, 1, 900} {
			a, e := levelone.OfJ(f, prec)
			want := laurent{coef: map[int]*big.Rat{}, prec: prec}
			if len(f) == 1 && prec > 0 {
				want.coef[0] = big.NewRat(3, 2)
			}
			expect(t, "OfJ of constants", a, e, want)
		}
	}
}

func TestInJ(t *testing.T) { // P39.3
	for _, c := range []struct {
		a    api.Series
		want api.Errno
	}{
		{of(-1, 1, 744, 196884, 21493760), api.OK}, {of(-1, 1, 744, 196884, 21493761), api.ErrMember}, {of(-1, 1, 744, 196883), api.ErrMember},
		{of(0, 5), api.OK}, {of(0, 5, 0, 0), api.OK}, {of(0, 5, 0, 1), api.ErrMember}, {of(1), api.OK}, {of(900), api.OK}, {of(1, 1), api.ErrMember},
		{of(-1, 1), api.ErrPrec}, {of(0), api.ErrPrec}, {of(-30), api.ErrPrec}, {of(901), api.ErrPrec}, {of(1000), api.ErrPrec}, {of(900, 1), api.ErrPrec},
		{of(-21, 1), api.ErrLarge}, {of(-100, 1, 2, 3), api.ErrLarge}, {of(-21, 0), api.ErrPrec},
		{of(-21, append([]int64{0, 0, 1}, make([]int64, 19)...)...), api.OK},
		{of(-21, append([]int64{1}, make([]int64, 1000)...)...), api.ErrLarge},
		{of(-20, append([]int64{1}, make([]int64, 921)...)...), api.ErrPrec},
		{of(-1, 0, 3), api.OK},
	} {
		f, e := levelone.InJ(c.a)
		if c.want != api.OK {
			expectError(t, "InJ", f, e, c.want)
			continue
		}
		prec := c.a.From + len(c.a.Coef)
		if got := ofJ(toRats(f), min(prec, 50)); e != api.OK || prec < 50 && !alike(mustWrite(t, got), mustWrite(t, read(c.a))) {
			t.Errorf("InJ of %v: %v, %d", show(c.a), f, e)
		}
		if len(f) > 0 && toRat(f[len(f)-1]).Sign() == 0 {
			t.Errorf("InJ of %v has a leading zero", show(c.a))
		}
	}
	for _, a := range invalid() {
		f, e := levelone.InJ(a)
		expectError(t, "InJ", f, e, api.ErrRange)
	}
}

// mustWrite returns a series as a result that is in range.
func mustWrite(t *testing.T, f laurent) api.Series {
	t.Helper()
	a, e := write(f)
	if e != api.OK {
		t.Fatal(e)
	}
	return a
}

func TestMemory(t *testing.T) { // R3
	lead := of(0, 3, 5).Coef
	f := of(0, 1, 2, 3).Coef
	a := of(-1, 1, 744, 196884)
	saveLead, saveF, saveA := copied(api.Series{Coef: lead}), copied(api.Series{Coef: f}), copied(a)
	for name, call := range map[string]func() (api.Series, api.Errno){
		"Delta": func() (api.Series, api.Errno) { return levelone.Delta(5) },
		"J":     func() (api.Series, api.Errno) { return levelone.J(5) },
		"Tau": func() (api.Series, api.Errno) {
			z, e := levelone.Tau(5)
			return api.Series{Coef: []api.Rat{{Num: z}}}, e
		},
		"Miller": func() (api.Series, api.Errno) {
			l, e := levelone.Miller(24, 5)
			var all api.Series
			for _, b := range l {
				all.Coef = append(all.Coef, b.Coef...)
			}
			return all, e
		},
		"Form": func() (api.Series, api.Errno) { return levelone.Form(12, lead, 6) },
		"Polynomial": func() (api.Series, api.Errno) {
			p, e := levelone.Polynomial(12, lead)
			var all api.Series
			for _, x := range p {
				all.Coef = append(all.Coef, x.Coef)
			}
			return all, e
		},
		"Faber": func() (api.Series, api.Errno) {
			p, e := levelone.Faber(3)
			return api.Series{Coef: p}, e
		},
		"OfJ":          func() (api.Series, api.Errno) { return levelone.OfJ(f, 4) },
		"OfJ constant": func() (api.Series, api.Errno) { return levelone.OfJ(f[:1], 4) },
		"InJ": func() (api.Series, api.Errno) {
			p, e := levelone.InJ(a)
			return api.Series{Coef: p}, e
		},
	} {
		got, e := call()
		want := copied(got)
		if e != api.OK {
			t.Errorf("%s: %d", name, e)
		}
		for i := range got.Coef {
			other, keep := copied(got), got.Coef[i]
			spoil(api.Series{Coef: []api.Rat{keep}})
			for j := range got.Coef {
				if j != i && !sameRats(got.Coef[j:j+1], other.Coef[j:j+1]) {
					t.Errorf("%s: coefficients %d and %d share memory", name, i, j)
				}
			}
		}
		spoil(got)
		if !sameRats(lead, saveLead.Coef) || !sameRats(f, saveF.Coef) || !alike(a, saveA) {
			t.Fatalf("%s shares memory with an argument, or changes it", name)
		}
		if again, _ := call(); !alike(again, want) {
			t.Errorf("%s: %v, then %v", name, show(want), show(again))
		}
	}
}
