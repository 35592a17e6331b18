package levelone_test

import (
	"math"
	"math/big"
	"math/rand"
	"testing"

	"halfplane/api"
	"halfplane/levelone"
	"halfplane/quasimodular"
	"halfplane/series"
)

// outside returns precisions that are not from 0 to MaxPrec.
var outside = []int{math.MinInt, -1, 1001, math.MaxInt}

func TestDimension(t *testing.T) { // P39.1
	// The number of pairs (a, b) with 4 a + 6 b = k.
	for k := -50; k <= 200; k++ {
		want := 0
		for a := 0; 4*a <= k; a++ {
			if (k-4*a)%6 == 0 {
				want++
			}
		}
		if got := levelone.Dimension(k); got != want {
			t.Errorf("Dimension(%d): %d, not %d", k, got, want)
		}
	}
	for k, want := range map[int]int{
		math.MinInt: 0, math.MinInt + 1: 0, math.MaxInt: 0, math.MaxInt - 1: (math.MaxInt-1)/12 + 1, -12: 0, -2: 0,
	} {
		if got := levelone.Dimension(k); got != want {
			t.Errorf("Dimension(%d): %d, not %d", k, got, want)
		}
	}
}

func TestDelta(t *testing.T) { // P39.1
	want := discriminant(1000)
	for _, prec := range []int{0, 1, 2, 3, 4, 30, 31, 999, 1000} {
		a, e := levelone.Delta(prec)
		expect(t, "Delta", a, e, cut(want, prec))
	}
	for _, prec := range outside {
		a, e := levelone.Delta(prec)
		expectError(t, "Delta", a, e, api.ErrRange)
	}
	for n := 1; n < 1000; n++ {
		z, e := levelone.Tau(n)
		if e != api.OK || !sameInt(z, fromBig(want.at(n).Num())) {
			t.Errorf("Tau(%d): %v, %d", n, z, e)
		}
	}
	for _, n := range []int{math.MinInt, -1, 0, 1000, 1001, math.MaxInt} {
		z, e := levelone.Tau(n)
		expectError(t, "Tau", z, e, api.ErrRange)
	}
}

func TestJ(t *testing.T) { // P39.1
	j := invariant(60)
	for _, prec := range []int{-100, -99, -2, -1, 0, 1, 2, 3, 59, 60} {
		a, e := levelone.J(prec)
		expect(t, "J", a, e, cut(j, prec))
	}
	// j Delta is E4^3 to the whole precision.
	a, e := levelone.J(998)
	if e != api.OK || a.From != -1 || len(a.Coef) != 999 {
		t.Fatalf("J(998): %d, %d, %d", a.From, len(a.Coef), e)
	}
	d, _ := levelone.Delta(1000)
	got, _ := series.Mul(a, d)
	want, _ := quasimodular.Expansion(api.QuasiPoly{{B: 3, Coef: fraction(1, 1)}}, 999)
	if !alike(got, want) {
		t.Error("j Delta is not E4^3")
	}
	for _, prec := range []int{math.MinInt, -101, 999, 1000, math.MaxInt} {
		a, e := levelone.J(prec)
		expectError(t, "J", a, e, api.ErrRange)
	}
}

func TestExamples(t *testing.T) { // P39.1, P39.2, P39.3
	a, e := levelone.Delta(4)
	expect(t, "Delta", a, e, read(of(1, 1, -24, 252)))
	a, e = levelone.J(2)
	expect(t, "J", a, e, read(of(-1, 1, 744, 196884)))
	l, e := levelone.Miller(12, 3)
	if len(l) != 2 || e != api.OK || !alike(l[0], of(0, 1, 0, 196560)) || !alike(l[1], of(1, 1, -24)) {
		t.Errorf("Miller(12, 3): %v, %d", l, e)
	}
	if levelone.Dimension(14) != 1 || levelone.Dimension(24) != 3 || levelone.Dimension(26) != 2 {
		t.Error("dimensions of 14, 24 and 26")
	}
	p, e := levelone.Polynomial(12, of(0, 0, 1).Coef)
	if len(p) != 2 || e != api.OK || p[0].A != 0 || p[0].B != 0 || p[0].C != 2 || p[1].A != 0 || p[1].B != 3 || p[1].C != 0 ||
		!sameRats([]api.Rat{p[0].Coef, p[1].Coef}, []api.Rat{fraction(-1, 1728), fraction(1, 1728)}) {
		t.Errorf("Polynomial: %v, %d", p, e)
	}
	for m, want := range []api.Series{of(0, 1), of(0, -744, 1), of(0, 159768, -1488, 1)} {
		f, e := levelone.Faber(m)
		if e != api.OK || !sameRats(f, want.Coef) {
			t.Errorf("Faber(%d): %v, %d", m, f, e)
		}
	}
}

// monomial returns E4^b E6^c.
func monomial(b, c, prec int) laurent {
	value := from(0, prec, func(n int) *big.Rat { return big.NewRat(int64(1-min(n, 1)), 1) })
	for range b {
		value = times(value, eisenstein(4, prec))
	}
	for range c {
		value = times(value, eisenstein(6, prec))
	}
	return value
}

// form returns the form of weight k with these first coefficients, by elimination in the
// products of powers of Delta and monomials.
func form(k int, lead []*big.Rat, prec int) laurent {
	known := max(prec, len(lead))
	sum := from(0, known, func(int) *big.Rat { return new(big.Rat) })
	for i := range lead {
		rest := k - 12*i
		c := 0
		if rest%4 != 0 {
			c = 1
		}
		f := monomial((rest-6*c)/4, c, known)
		for range i {
			f = cut(times(f, discriminant(known)), known)
		}
		factor := new(big.Rat).Sub(lead[i], sum.at(i))
		for _, n := range f.known() {
			sum.coef[n] = new(big.Rat).Add(sum.at(n), new(big.Rat).Mul(factor, f.at(n)))
		}
	}
	return cut(sum, prec)
}

// unit returns a list of d numbers of which the one with the index i is 1, the others 0.
func unit(d, i int) []*big.Rat {
	l := make([]*big.Rat, d)
	for n := range l {
		l[n] = new(big.Rat)
	}
	l[i].SetInt64(1)
	return l
}

func TestMiller(t *testing.T) { // P39.2
	for k := 0; k <= 60; k += 2 {
		d := levelone.Dimension(k)
		for _, prec := range []int{0, 1, d, d + 1, 12} {
			l, e := levelone.Miller(k, prec)
			if e != api.OK || len(l) != d {
				t.Fatalf("Miller(%d, %d): %d series, %d", k, prec, len(l), e)
			}
			for i, f := range l {
				expect(t, "Miller", f, e, form(k, unit(d, i), prec))
			}
		}
	}
	l, e := levelone.Miller(60, 1000)
	for i, f := range l {
		if e != api.OK || f.From != i || f.From+len(f.Coef) != 1000 {
			t.Errorf("Miller(60, 1000): precision %d", f.From+len(f.Coef))
		}
		for _, c := range f.Coef {
			if !sameInt(c.Den, fromBig(big.NewInt(1))) {
				t.Fatalf("Miller(60, 1000): the coefficient %v", c)
			}
		}
	}
}

// millerErrors contains weights, precisions and errors.
var millerErrors = []struct {
	k, prec int
	want    api.Errno
}{
	{-2, 0, api.ErrRange}, {62, 0, api.ErrRange}, {-1, 5, api.ErrRange}, {61, 5, api.ErrRange}, {math.MinInt, 5, api.ErrRange},
	{math.MaxInt, 5, api.ErrRange}, {11, 5, api.ErrParity}, {59, -1, api.ErrParity}, {1, 1001, api.ErrParity},
	{12, -1, api.ErrRange}, {12, 1001, api.ErrRange}, {2, -1, api.ErrRange}, {2, math.MaxInt, api.ErrRange}, {0, math.MinInt, api.ErrRange},
}

func TestFormErrors(t *testing.T) { // P39.2
	for _, c := range millerErrors {
		l, e := levelone.Miller(c.k, c.prec)
		expectError(t, "Miller", l, e, c.want)
		lead := make([]api.Rat, levelone.Dimension(c.k%100))
		f, e := levelone.Form(c.k, lead, c.prec)
		expectError(t, "Form", f, e, c.want)
		if c.k < 0 || c.k > 60 || c.k%2 != 0 {
			p, e := levelone.Polynomial(c.k, lead)
			expectError(t, "Polynomial", p, e, c.want)
			p, e = levelone.Polynomial(c.k, nil)
			expectError(t, "Polynomial", p, e, c.want)
		}
	}
	for _, c := range [][2]int{{12, 0}, {12, 1}, {12, 3}, {2, 1}, {0, 0}, {0, 2}, {60, 5}, {60, 7}} {
		lead := make([]api.Rat, c[1])
		for _, prec := range []int{10, -1, 1001} {
			f, e := levelone.Form(c[0], lead, prec)
			expectError(t, "Form", f, e, api.ErrShape)
		}
		p, e := levelone.Polynomial(c[0], lead)
		expectError(t, "Polynomial", p, e, api.ErrShape)
	}
}

func TestForm(t *testing.T) { // P39.2, P39.4
	r := rand.New(rand.NewSource(391))
	for k := 0; k <= 60; k += 2 {
		for _, prec := range []int{0, 1, 4, 15} {
			lead := make([]api.Rat, levelone.Dimension(k))
			wanted := make([]*big.Rat, len(lead))
			for i := range lead {
				lead[i] = randomRat(r)
				wanted[i] = toRat(lead[i])
			}
			f, e := levelone.Form(k, lead, prec)
			expect(t, "Form", f, e, form(k, wanted, prec))
			p, e := levelone.Polynomial(k, lead)
			if e != api.OK {
				t.Fatalf("Polynomial(%d): %d", k, e)
			}
			a, e := quasimodular.Expansion(p, prec)
			expect(t, "expansion of Polynomial", a, e, form(k, wanted, prec))
			for i, x := range p {
				if x.A != 0 || 4*x.B+6*x.C != k || toRat(x.Coef).Sign() == 0 || i > 0 && x.B <= p[i-1].B {
					t.Errorf("Polynomial(%d): %v", k, p)
				}
			}
		}
	}
	// A form with the first coefficients 0 is 0.
	for _, k := range []int{0, 2, 12, 24, 58, 60} {
		f, e := levelone.Form(k, make([]api.Rat, levelone.Dimension(k)), 1000)
		if e != api.OK || f.From != 1000 || len(f.Coef) != 0 {
			t.Errorf("Form of 0: %v, %d", f.From, e)
		}
		p, e := levelone.Polynomial(k, make([]api.Rat, levelone.Dimension(k)))
		if e != api.OK || len(p) != 0 {
			t.Errorf("Polynomial of 0: %v, %d", p, e)
		}
	}
}

func TestTau(t *testing.T) { // P39.4
	tau := make([]*big.Int, 1000)
	for n := 1; n < 1000; n++ {
		z, _ := levelone.Tau(n)
		tau[n] = toBig(z)
		difference := new(big.Int).Sub(tau[n], sigma(11, n))
		if difference.Mod(difference, big.NewInt(691)).Sign() != 0 {
			t.Errorf("tau(%d) and sigma_11 differ modulo 691", n)
		}
	}
	for m := 2; m < 500; m++ {
		for n := m + 1; m*n < 1000; n++ {
			if new(big.Int).GCD(nil, nil, big.NewInt(int64(m)), big.NewInt(int64(n))).Int64() == 1 &&
				new(big.Int).Mul(tau[m], tau[n]).Cmp(tau[m*n]) != 0 {
				t.Errorf("tau(%d) is not tau(%d) tau(%d)", m*n, m, n)
			}
		}
	}
	for _, p := range []int{2, 3, 5, 7, 11, 13, 17, 19, 23, 29, 31} {
		for q := p * p; q < 1000; q *= p {
			want := new(big.Int).Mul(tau[p], tau[q/p])
			power := new(big.Int).Exp(big.NewInt(int64(p)), big.NewInt(11), nil)
			want.Sub(want, power.Mul(power, tau[q/p/p]))
			if want.Cmp(tau[q]) != 0 {
				t.Errorf("tau(%d): %v, not %v", q, tau[q], want)
			}
		}
	}
}
