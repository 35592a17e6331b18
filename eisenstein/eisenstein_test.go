package eisenstein_test

import (
	"math"
	"math/big"
	"math/rand"
	"testing"

	"halfplane/api"
	"halfplane/eisenstein"
)

// outside returns numbers outside of the limits.
func outside(least, most int) []int {
	return []int{least - 1, most + 1, -most, math.MinInt, math.MaxInt}
}

func TestSum(t *testing.T) { // P34.1
	r := rand.New(rand.NewSource(341))
	l := discriminants()
	for range 300 {
		k, d1, d2, n := r.Intn(41), l[r.Intn(len(l))], l[r.Intn(len(l))], 1+r.Intn(60)
		if r.Intn(9) == 0 {
			n = 1000 - r.Intn(9)
		}
		got, e := eisenstein.Sum(k, d1, d2, n)
		if want := fromBig(divisorSum(k, d1, d2, n)); e != api.OK || !sameInt(got, want) {
			t.Errorf("Sum(%d, %d, %d, %d): %v, %d; want %v", k, d1, d2, n, got, e, want)
		}
	}
	for _, l := range [][2]int{{0, 12}, {1, 12}, {40, 1000}, {0, 1}} {
		got, e := eisenstein.Sum(l[0], 1, 1, l[1])
		if want := fromBig(divisorSum(l[0], 1, 1, l[1])); e != api.OK || !sameInt(got, want) {
			t.Errorf("Sum(%d, 1, 1, %d): %v, %d", l[0], l[1], got, e)
		}
	}
}

func TestSumErrors(t *testing.T) { // P34.1
	for d := -70; d <= 70; d++ {
		want := api.ErrDisc
		if isFundamental(d) && d >= -60 && d <= 60 {
			want = api.OK
		}
		for _, l := range [][2]int{{1, d}, {d, 1}, {-4, d}, {d, 5}} {
			if _, e := eisenstein.Sum(3, l[0], l[1], 5); e != want {
				t.Errorf("Sum for %d: %d", l, e)
			}
		}
	}
	for _, d := range []int{0, 2, 61, -67, math.MinInt, math.MaxInt} {
		got, e := eisenstein.Sum(-1, 1, d, 0)
		expectError(t, "Sum", got, e, api.ErrDisc)
		got, e = eisenstein.Sum(-1, d, 1, 0)
		expectError(t, "Sum", got, e, api.ErrDisc)
	}
	for _, k := range outside(0, 40) {
		got, e := eisenstein.Sum(k, 1, 1, 5)
		expectError(t, "Sum", got, e, api.ErrRange)
	}
	for _, n := range outside(1, 1000) {
		got, e := eisenstein.Sum(3, 1, 1, n)
		expectError(t, "Sum", got, e, api.ErrRange)
	}
}

func TestMultiplicative(t *testing.T) { // P34.6
	for _, l := range [][3]int{{3, 1, 1}, {2, -3, 1}, {5, 5, -4}, {0, 8, -7}} {
		for m := 1; m < 30; m++ {
			for n := 1; n < 30; n++ {
				if gcd(m, n) != 1 {
					continue
				}
				a, _ := eisenstein.Sum(l[0], l[1], l[2], m)
				b, _ := eisenstein.Sum(l[0], l[1], l[2], n)
				c, e := eisenstein.Sum(l[0], l[1], l[2], m*n)
				if e != api.OK || new(big.Int).Mul(toBig(a), toBig(b)).Cmp(toBig(c)) != 0 {
					t.Errorf("Sum of %v at %d and %d", l, m, n)
				}
			}
		}
	}
}

// quadraticOf returns the coefficients of the series of two quadratic characters at t.
func quadraticOf(k, d1, d2, t, prec int) []*big.Rat {
	e := func(n int) *big.Rat {
		switch {
		case n > 0:
			return new(big.Rat).SetInt(divisorSum(k-1, d1, d2, n))
		case d1 == 1:
			return constantOf(k, d2)
		}
		return new(big.Rat)
	}
	coef := make([]*big.Rat, prec)
	for n := range coef {
		coef[n] = new(big.Rat)
		if n%t == 0 {
			coef[n] = e(n / t)
		}
		if k == 2 && d1 == 1 && d2 == 1 && t > 1 {
			coef[n].Mul(coef[n], big.NewRat(int64(-t), 1))
			coef[n].Add(coef[n], e(n))
		}
	}
	return coef
}

func TestLevelOne(t *testing.T) { // P34.2
	for k := 2; k <= 40; k += 2 {
		for _, prec := range []int{0, 1, 2, 30} {
			coef := quadraticOf(k, 1, 1, 1, prec)
			got, e := eisenstein.Classical(k, prec)
			if e != api.OK || !alike(got, written(coef)) {
				t.Errorf("Classical(%d, %d): %v, %d", k, prec, got, e)
			}
			for n := prec - 1; n >= 0; n-- {
				coef[n].Quo(coef[n], coef[0])
			}
			got, e = eisenstein.Normalized(k, prec)
			if e != api.OK || !alike(got, written(coef)) {
				t.Errorf("Normalized(%d, %d): %v, %d", k, prec, got, e)
			}
		}
	}
	for _, f := range []func(k, prec int) (api.Series, api.Errno){eisenstein.Classical, eisenstein.Normalized} {
		for _, k := range append(outside(2, 40), 0, 1) {
			got, e := f(k, -1)
			expectError(t, "weight", got, e, api.ErrRange)
		}
		for _, k := range []int{3, 5, 39} {
			got, e := f(k, -1)
			expectError(t, "weight", got, e, api.ErrParity)
		}
		for _, prec := range outside(0, 1000) {
			got, e := f(4, prec)
			expectError(t, "precision", got, e, api.ErrRange)
		}
		if got, e := f(12, 1000); e != api.OK || len(got.Coef) != 1000 {
			t.Errorf("precision 1000: %d coefficients, %d", len(got.Coef), e)
		}
	}
}

func TestExamples(t *testing.T) { // P34.2, P34.3, P34.4
	check := func(name string, got api.Series, e api.Errno, want ...*big.Rat) {
		t.Helper()
		if e != api.OK || !alike(got, written(want)) {
			t.Errorf("%s: %v, %d", name, got, e)
		}
	}
	got, e := eisenstein.Normalized(4, 3)
	check("E4", got, e, integers(1, 240, 2160)...)
	got, e = eisenstein.Normalized(6, 2)
	check("E6", got, e, integers(1, -504)...)
	got, e = eisenstein.Normalized(2, 3)
	check("E2", got, e, integers(1, -24, -72)...)
	got, e = eisenstein.Classical(4, 2)
	check("G4", got, e, big.NewRat(1, 240), big.NewRat(1, 1))
	got, e = eisenstein.Real(2, 1, 1, 2, 3)
	check("G2 at 2", got, e, big.NewRat(1, 24), big.NewRat(1, 1), big.NewRat(1, 1))
	got, e = eisenstein.Real(3, 1, -4, 1, 4)
	check("1, -4", got, e, big.NewRat(-1, 4), big.NewRat(1, 1), big.NewRat(1, 1), big.NewRat(-8, 1))
	got, e = eisenstein.Real(3, -4, 1, 1, 4)
	check("-4, 1", got, e, integers(0, 1, 4, 8)...)
	checkPairs(t, api.Spec{Level: 4, Weight: 4, Disc: 1}, trivial(1), trivial(2), trivial(4))
	three := api.Character{Modulus: 3, Exps: []int{1}}
	checkPairs(t, api.Spec{Level: 9, Weight: 4, Disc: 1}, trivial(1), trivial(3), trivial(9), api.EisPair{Chi: three, Psi: three, T: 1})
}

func TestReal(t *testing.T) { // P34.3
	r := rand.New(rand.NewSource(343))
	l := discriminants()
	for range 200 {
		k, d1, d2 := 2+r.Intn(12), l[r.Intn(len(l))], l[r.Intn(len(l))]
		if r.Intn(3) > 0 {
			d1 = 1
		}
		if r.Intn(3) == 0 {
			d2 = 1
		}
		if (d1*d2 > 0) != (k%2 == 0) {
			k++
		}
		factor, prec := 1+r.Intn(5), r.Intn(30)
		got, e := eisenstein.Real(k, d1, d2, factor, prec)
		if k == 2 && d1 == 1 && d2 == 1 && factor == 1 {
			expectError(t, "E2", got, e, api.ErrKind)
			continue
		}
		if want := written(quadraticOf(k, d1, d2, factor, prec)); e != api.OK || !alike(got, want) {
			t.Errorf("Real(%d, %d, %d, %d, %d): %v, %d; want %v", k, d1, d2, factor, prec, got, e, want)
		}
	}
	for _, c := range []struct{ k, d1, d2, t, prec int }{{40, 1, 1, 1, 12}, {39, 1, -3, 1, 12}, {2, 1, 1, 1000, 1000}, {2, 1, 1, 999, 1000}, {4, 1, 1, 1000, 5}, {3, -59, 60, 7, 100}, {2, 5, 1, 1, 0}, {2, 1, 1, 2, 0}} {
		got, e := eisenstein.Real(c.k, c.d1, c.d2, c.t, c.prec)
		if want := written(quadraticOf(c.k, c.d1, c.d2, c.t, c.prec)); e != api.OK || !alike(got, want) {
			t.Errorf("Real of %v: %v, %d; want %v", c, got, e, want)
		}
	}
}

func TestRealErrors(t *testing.T) { // P34.3
	check := func(k, d1, d2, factor, prec int, want api.Errno) {
		t.Helper()
		got, e := eisenstein.Real(k, d1, d2, factor, prec)
		expectError(t, "Real", got, e, want)
	}
	for _, k := range append(outside(2, 40), 1, 0) {
		check(k, 0, 0, 0, -1, api.ErrRange)
	}
	for _, d := range []int{0, -1, 2, 3, 9, 61, -67, 64, math.MinInt, math.MaxInt} {
		check(4, d, 1, 0, -1, api.ErrDisc)
		check(3, 1, d, 0, -1, api.ErrDisc)
	}
	check(3, 1, 1, 0, -1, api.ErrParity)
	check(4, -4, 1, 0, -1, api.ErrParity)
	check(4, 1, -4, 0, -1, api.ErrParity)
	check(3, -4, -3, 0, -1, api.ErrParity)
	for _, factor := range outside(1, 1000) {
		check(2, 1, 1, factor, -1, api.ErrRange)
		check(4, 1, 1, factor, -1, api.ErrRange)
	}
	check(2, 1, 1, 1, -1, api.ErrKind)
	for _, prec := range outside(0, 1000) {
		check(2, 1, 1, 2, prec, api.ErrRange)
		check(2, 5, 5, 1, prec, api.ErrRange)
	}
}

func TestRealEigenvalues(t *testing.T) { // P34.6
	for _, l := range [][3]int{{4, 1, 1}, {3, 1, -4}, {3, -3, 1}, {2, 5, 5}, {6, -7, -3}, {12, 1, 8}} {
		k, d1, d2 := l[0], l[1], l[2]
		a, _ := eisenstein.Real(k, d1, d2, 1, 100)
		coef := read(a)
		for _, p := range []int{2, 3, 5, 7, 11} {
			if d1*d2%p == 0 {
				continue
			}
			factor := new(big.Rat).SetInt(power(p, k-1))
			value := new(big.Rat).Mul(factor, big.NewRat(symbol(d2, p), 1))
			value.Add(value, big.NewRat(symbol(d1, p), 1))
			factor.Mul(factor, big.NewRat(symbol(d1, p)*symbol(d2, p), 1))
			for m := 0; m*p < 100; m++ {
				image := new(big.Rat).Set(coef[m*p])
				if m%p == 0 {
					image.Add(image, new(big.Rat).Mul(factor, coef[m/p]))
				}
				if image.Cmp(new(big.Rat).Mul(value, coef[m])) != 0 {
					t.Errorf("T_%d on the series of %v, coefficient %d", p, l, m)
				}
			}
		}
	}
}
