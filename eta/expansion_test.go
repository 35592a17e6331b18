package eta_test

import (
	"math"
	"math/big"
	"math/rand"
	"slices"
	"testing"

	"halfplane/api"
	"halfplane/eta"
	"halfplane/series"
)

func TestExpansion(t *testing.T) { // P35.4
	r := rand.New(rand.NewSource(354))
	for range 300 {
		e := random(r, 1+r.Intn(12), 12)
		total := 0
		for i, d := range divisors(e.Level) {
			total += d * e.Exps[i]
		}
		// The last exponent is changed such that the first exponent of the expansion is an
		// integer, if that is possible.
		if gcd(e.Level, 24) == 1 {
			for total%24 != 0 {
				e.Exps[len(e.Exps)-1]++
				total += e.Level
			}
		}
		prec := r.Intn(40) - 10
		got, code := eta.Expansion(e, prec)
		if total%24 != 0 {
			expectError(t, "Expansion", got, code, api.ErrInexact)
			continue
		}
		checkExpansion(t, e, prec, got, code)
	}
}

// checkExpansion compares an expansion with the product of its factors.
func checkExpansion(t *testing.T, e api.Eta, prec int, got api.Series, code api.Errno) {
	t.Helper()
	first, _ := expansion(e, 0)
	if code != api.OK || got.From != min(first, prec) || len(got.Coef) != max(0, prec-first) {
		t.Errorf("Expansion(%v, %d): %v, %d", e, prec, got, code)
		return
	}
	_, coef := expansion(e, len(got.Coef))
	for i, x := range got.Coef {
		if !isNormal(x) || toRat(x).Cmp(new(big.Rat).SetInt(coef[i])) != 0 {
			t.Errorf("Expansion(%v, %d), coefficient %d: %v; want %v", e, prec, i, toRat(x), coef[i])
		}
	}
}

func TestExpansionLimits(t *testing.T) { // P35.4
	check := func(e api.Eta, prec int, want api.Errno) {
		t.Helper()
		got, code := eta.Expansion(e, prec)
		if want != api.OK {
			expectError(t, "Expansion", got, code, want)
			return
		}
		checkExpansion(t, e, prec, got, code)
	}
	for _, prec := range []int{-101, 1001, math.MinInt, math.MaxInt} {
		check(of(1, 1), prec, api.ErrRange)
	}
	check(of(1, 1), 5, api.ErrInexact)
	check(of(1, -1), -100, api.ErrInexact)
	check(of(24, 0, 0, 0, 0, 0, 0, 0, -101), 5, api.ErrRange)
	check(of(24, 0, 0, 0, 0, 0, 0, 0, -100), 5, api.OK)
	check(of(24, 0, 0, 0, 0, 0, 0, 0, -100), -100, api.OK)
	check(of(24, 1, 0, 0, 0, 0, 0, 0, -101), 5, api.ErrInexact)
	check(of(600, slices.Concat(make([]int, 23), []int{200})...), 1000, api.OK)
	check(of(24, 0, 0, 0, 0, 0, 0, 0, 200), 1000, api.OK)
	check(of(24, 0, 0, 0, 0, 0, 0, 0, 200), 200, api.OK)
	check(of(24, 0, 0, 0, 0, 0, 0, 0, 200), 201, api.OK)
	check(of(1, 24), 1, api.OK)
	check(of(1, 24), 0, api.OK)
	check(of(1, 24), -100, api.OK)
	check(of(1, 24), 1000, api.OK)
	check(of(1, 0), 3, api.OK)
}

func TestExamples(t *testing.T) { // P35.1 to P35.4
	for _, c := range []struct {
		e      api.Eta
		weight int
		orders []string
		disc   int
		pole   int
		prec   int
		first  int
		coef   []int64
	}{
		{of(1, 24), 12, []string{"1"}, 1, 0, 4, 1, []int64{1, -24, 252}},
		{of(11, 2, 2), 2, []string{"1", "1"}, 1, 0, 4, 1, []int64{1, -2, -1}},
		{of(4, -4, 10, -4), 1, []string{"0", "1/2", "0"}, -4, 0, 3, 0, []int64{1, 4, 4}},
		{of(25, -1, 0, 1), 0, []string{"-1", "0", "1"}, 1, 1, 4, 1, []int64{1, 1, 2}},
	} {
		if k, code := eta.Weight(c.e); code != api.OK || k != c.weight {
			t.Errorf("Weight(%v): %d, %d", c.e, k, code)
		}
		for i, d := range divisors(c.e.Level) {
			if x, code := eta.Order(c.e, d); code != api.OK || toRat(x).RatString() != c.orders[i] {
				t.Errorf("Order(%v, %d): %v, %d", c.e, d, x, code)
			}
		}
		if d, code := eta.Disc(c.e); code != api.OK || d != c.disc {
			t.Errorf("Disc(%v): %d, %d", c.e, d, code)
		}
		if m, code := eta.Pole(c.e); code != api.OK || m != c.pole {
			t.Errorf("Pole(%v): %d, %d", c.e, m, code)
		}
		got, code := eta.Expansion(c.e, c.prec)
		if code != api.OK || got.From != c.first || !slices.Equal(read(got), c.coef) {
			t.Errorf("Expansion(%v): %v, %d", c.e, got, code)
		}
	}
}

func TestConsequences(t *testing.T) { // P35.7
	r := rand.New(rand.NewSource(357))
	for _, level := range levels() {
		a, b := random(r, level, 100), random(r, level, 100)
		product := must(t)(eta.Times(a, b))
		sum := new(big.Rat)
		for _, c := range divisors(level) {
			x, _ := eta.Order(a, c)
			y, _ := eta.Order(b, c)
			z, _ := eta.Order(product, c)
			if toRat(z).Cmp(new(big.Rat).Add(toRat(x), toRat(y))) != 0 {
				t.Errorf("orders of %v, %v and their product at %d", a, b, c)
			}
			sum.Add(sum, new(big.Rat).Mul(toRat(x), big.NewRat(int64(phi(gcd(c, level/c))), 1)))
		}
		if want := big.NewRat(int64(psi(level)*half(a)), 24); sum.Cmp(want) != 0 {
			t.Errorf("sum of the orders of %v: %v; want %v", a, sum, want)
		}
	}
	for _, l := range [][2]api.Eta{{of(1, 24), of(11, 2, 2)}, {of(4, -4, 10, -4), of(6, 2, 2, 2, 2)}, {of(25, -1, 0, 1), of(1, -24)}} {
		a, _ := eta.Expansion(l[0], 30)
		b, _ := eta.Expansion(l[1], 30)
		want, _ := series.Mul(a, b)
		prec, _ := series.Prec(want)
		got, code := eta.Expansion(must(t)(eta.Times(l[0], l[1])), prec)
		if code != api.OK || got.From != want.From || !slices.Equal(read(got), read(want)) {
			t.Errorf("expansion of the product of %v: %v, %d", l, got, code)
		}
		order, _ := eta.Order(l[0], l[0].Level)
		if toRat(order).Cmp(big.NewRat(int64(a.From), 1)) != 0 {
			t.Errorf("order of %v at infinity: %v", l[0], order)
		}
		raised := must(t)(eta.Raise(l[0], 4*l[0].Level))
		k, _ := eta.Weight(l[0])
		k2, _ := eta.Weight(raised)
		d, _ := eta.Disc(l[0])
		d2, code := eta.Disc(raised)
		c, _ := eta.Expansion(raised, 30)
		if code != api.OK || k != k2 || d != d2 || !slices.Equal(read(a), read(c)) {
			t.Errorf("Raise of %v: %v", l[0], raised)
		}
	}
}
