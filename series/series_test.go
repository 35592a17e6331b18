package series_test

import (
	"math"
	"math/big"
	"math/rand"
	"testing"

	"halfplane/api"
	"halfplane/series"
)

// samples returns series at the limits and random ones.
func samples(r *rand.Rand, count, size int) []api.Series {
	l := valid()
	for range count {
		l = append(l, random(r, size))
	}
	return l
}

func TestCheck(t *testing.T) { // P33.1
	for _, a := range valid() {
		if e := series.Check(a); e != api.OK {
			t.Errorf("Check(%d, %d coefficients): %d", a.From, len(a.Coef), e)
		}
	}
	for _, a := range invalid() {
		if e := series.Check(a); e != api.ErrRange {
			t.Errorf("Check(%d, %d coefficients): %d", a.From, len(a.Coef), e)
		}
	}
}

func TestInvalid(t *testing.T) { // P33.1 to P33.7
	good := of(0)
	one := fraction(1, 1)
	for _, a := range invalid() {
		for _, l := range [][2]api.Series{{a, good}, {good, a}} {
			if n, differ, e := series.Differ(l[0], l[1]); e != api.ErrRange || n != 0 || differ {
				t.Errorf("Differ: %d, %v, %d", n, differ, e)
			}
		}
		for name, f := range map[string]func() (any, api.Errno){
			"Normal":       func() (any, api.Errno) { x, e := series.Normal(a); return x, e },
			"Prec":         func() (any, api.Errno) { x, e := series.Prec(a); return x, e },
			"Order":        func() (any, api.Errno) { x, e := series.Order(a); return x, e },
			"At":           func() (any, api.Errno) { x, e := series.At(a, 5000); return x, e },
			"Cut":          func() (any, api.Errno) { x, e := series.Cut(a, 3); return x, e },
			"Add":          func() (any, api.Errno) { x, e := series.Add(a, good); return x, e },
			"Add second":   func() (any, api.Errno) { x, e := series.Add(good, a); return x, e },
			"Sub":          func() (any, api.Errno) { x, e := series.Sub(a, good); return x, e },
			"Sub second":   func() (any, api.Errno) { x, e := series.Sub(good, a); return x, e },
			"Scale":        func() (any, api.Errno) { x, e := series.Scale(one, a); return x, e },
			"Shift":        func() (any, api.Errno) { x, e := series.Shift(a, 1); return x, e },
			"Mul":          func() (any, api.Errno) { x, e := series.Mul(a, good); return x, e },
			"Mul second":   func() (any, api.Errno) { x, e := series.Mul(good, a); return x, e },
			"Inverse":      func() (any, api.Errno) { x, e := series.Inverse(a); return x, e },
			"Quo":          func() (any, api.Errno) { x, e := series.Quo(a, good); return x, e },
			"Quo second":   func() (any, api.Errno) { x, e := series.Quo(good, a); return x, e },
			"Power":        func() (any, api.Errno) { x, e := series.Power(a, -1); return x, e },
			"Theta":        func() (any, api.Errno) { x, e := series.Theta(a); return x, e },
			"Expand":       func() (any, api.Errno) { x, e := series.Expand(a, 1); return x, e },
			"Contract":     func() (any, api.Errno) { x, e := series.Contract(a, 1); return x, e },
			"Sieve":        func() (any, api.Errno) { x, e := series.Sieve(a, 1, 0); return x, e },
			"Twist":        func() (any, api.Errno) { x, e := series.Twist(a, 0); return x, e },
			"Exponents":    func() (any, api.Errno) { x, _, e := series.Exponents(a); return x, e },
			"Denominators": func() (any, api.Errno) { x, e := series.Denominator(a); return x, e },
		} {
			x, e := f()
			expectError(t, name, x, e, api.ErrRange)
		}
	}
}

func TestParts(t *testing.T) { // P33.1
	r := rand.New(rand.NewSource(331))
	for _, a := range samples(r, 200, 12) {
		f := read(a)
		got, e := series.Normal(a)
		expect(t, "Normal", got, e, f)
		if p, e := series.Prec(a); e != api.OK || p != f.prec {
			t.Errorf("Prec(%v): %d, %d", show(a), p, e)
		}
		o, e := series.Order(a)
		if f.order() == f.prec {
			expectError(t, "Order", o, e, api.ErrPole)
		} else if e != api.OK || o != f.order() {
			t.Errorf("Order(%v): %d, %d", show(a), o, e)
		}
		for _, n := range []int{math.MinInt, -101, a.From - 1, a.From, a.From + 3, f.prec - 1} {
			if n >= f.prec {
				continue
			}
			if c, e := series.At(a, n); e != api.OK || !sameRats([]api.Rat{c}, []api.Rat{fromRat(f.at(n))}) {
				t.Errorf("At(%v, %d): %v, %d", show(a), n, c, e)
			}
		}
		for _, n := range []int{f.prec, f.prec + 1, 1001, math.MaxInt} {
			c, e := series.At(a, n)
			expectError(t, "At", c, e, api.ErrPrec)
		}
		lcm := big.NewInt(1)
		for _, c := range f.coef {
			d := c.Denom()
			lcm.Div(new(big.Int).Mul(lcm, d), new(big.Int).GCD(nil, nil, lcm, d))
		}
		if d, e := series.Denominator(a); e != api.OK || toBig(d).Cmp(lcm) != 0 || d.Neg || len(d.Mag) == 0 {
			t.Errorf("Denominator(%v): %v, %d", show(a), d, e)
		}
	}
}

func TestCut(t *testing.T) { // P33.1
	r := rand.New(rand.NewSource(332))
	for _, a := range samples(r, 100, 12) {
		f := read(a)
		for _, p := range []int{-100, a.From - 1, a.From, a.From + 1, a.From + 4, f.prec, f.prec + 1, 1000, 1001, math.MaxInt} {
			if p < -100 {
				continue
			}
			got, e := series.Cut(a, p)
			expect(t, "Cut", got, e, laurent{coef: f.coef, prec: min(p, f.prec)})
		}
		for _, p := range []int{-101, math.MinInt} {
			got, e := series.Cut(a, p)
			expectError(t, "Cut", got, e, api.ErrRange)
		}
	}
}

func TestMonomial(t *testing.T) { // P33.1
	r := rand.New(rand.NewSource(333))
	for range 300 {
		c, n, p := randomRat(r), r.Intn(1101)-100, r.Intn(1101)-100
		got, e := series.Monomial(c, n, p)
		expect(t, "Monomial", got, e, laurent{coef: map[int]*big.Rat{n: toRat(c)}, prec: p})
	}
	for _, n := range []int{-100, 999, 1000} {
		got, e := series.Monomial(fraction(2, 3), n, 1000)
		expect(t, "Monomial", got, e, laurent{coef: map[int]*big.Rat{n: big.NewRat(2, 3)}, prec: 1000})
	}
	for _, l := range [][2]int{{-101, 0}, {1001, 0}, {0, -101}, {0, 1001}, {math.MinInt, 0}, {0, math.MaxInt}, {math.MaxInt, 5}, {5, math.MinInt}} {
		got, e := series.Monomial(fraction(1, 1), l[0], l[1])
		expectError(t, "Monomial", got, e, api.ErrRange)
	}
}

func TestLinear(t *testing.T) { // P33.2
	r := rand.New(rand.NewSource(334))
	l := samples(r, 40, 12)
	for _, a := range l {
		f := read(a)
		for _, b := range l {
			g := read(b)
			start, prec := min(a.From, b.From), min(f.prec, g.prec)
			got, e := series.Add(a, b)
			expect(t, "Add", got, e, from(start, prec, func(n int) *big.Rat { return new(big.Rat).Add(f.at(n), g.at(n)) }))
			got, e = series.Sub(a, b)
			expect(t, "Sub", got, e, from(start, prec, func(n int) *big.Rat { return new(big.Rat).Sub(f.at(n), g.at(n)) }))
		}
		for _, c := range []api.Rat{{}, fraction(1, 1), fraction(-7, 3), randomRat(r)} {
			got, e := series.Scale(c, a)
			expect(t, "Scale", got, e, from(a.From, f.prec, func(n int) *big.Rat { return new(big.Rat).Mul(toRat(c), f.at(n)) }))
		}
	}
}

func TestShift(t *testing.T) { // P33.2
	r := rand.New(rand.NewSource(335))
	for _, a := range samples(r, 60, 12) {
		f := read(a)
		for _, n := range []int{0, 1, -1, -100, -101, 1000, 1100, -1100, 40, -70, -80, 970, 990} {
			got, e := series.Shift(a, n)
			expect(t, "Shift", got, e, from(f.order()+n, f.prec+n, func(m int) *big.Rat { return f.at(m - n) }))
		}
		for _, n := range []int{1101, -1101, math.MinInt, math.MaxInt} {
			got, e := series.Shift(a, n)
			expectError(t, "Shift", got, e, api.ErrRange)
		}
	}
	// The zeros before the order do not count.
	got, e := series.Shift(of(-100, 0, 0, 5), -2)
	expect(t, "Shift", got, e, read(of(-100, 5)))
}

func TestDiffer(t *testing.T) { // P33.6
	r := rand.New(rand.NewSource(336))
	l := samples(r, 60, 5)
	for _, a := range l {
		for _, b := range append(l, normal(t, a)) {
			f, g := read(a), read(b)
			prec := min(f.prec, g.prec)
			want := min(a.From, b.From)
			for want < prec && f.at(want).Cmp(g.at(want)) == 0 {
				want++
			}
			n, differ, e := series.Differ(a, b)
			if e != api.OK || n != want || differ != (want < prec) {
				t.Errorf("Differ(%v, %v): %d, %v, %d", show(a), show(b), n, differ, e)
			}
		}
	}
}

func TestExamples(t *testing.T) { // P33.3, P33.4, P33.5
	got, e := series.Mul(of(-1, 1, 2, 0), of(3, 1, 0))
	expect(t, "Mul", got, e, read(of(2, 1, 2)))
	got, e = series.Inverse(of(0, 1, -1, 0, 0))
	expect(t, "Inverse", got, e, read(of(0, 1, 1, 1, 1)))
	got, e = series.Power(of(1, 2, 0), 3)
	expect(t, "Power", got, e, read(of(3, 8, 0)))
	got, e = series.Contract(of(-1, 1, 3, 5, 7), 2)
	expect(t, "Contract", got, e, read(of(0, 3, 7)))
	got, e = series.Twist(of(0, 1, 1, 1, 1), -4)
	expect(t, "Twist", got, e, read(of(1, 1, 0, -1)))
	h, c, e := series.Exponents(of(1, 1, 1, 2))
	if e != api.OK || h != 1 || !sameRats(c, of(0, -1, -1).Coef) {
		t.Errorf("Exponents: %d, %v, %d", h, c, e)
	}
}
