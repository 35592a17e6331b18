package series_test

import (
	"math"
	"math/big"
	"math/rand"
	"strconv"
	"testing"

	"halfplane/api"
	"halfplane/series"
)

func TestMul(t *testing.T) { // P33.3
	r := rand.New(rand.NewSource(341))
	l := samples(r, 30, 12)
	for _, a := range l {
		for _, b := range l {
			got, e := series.Mul(a, b)
			expect(t, "Mul", got, e, times(read(a), read(b)))
		}
	}
	for range 40 {
		a, b := long(r), long(r)
		got, e := series.Mul(a, b)
		expect(t, "Mul", got, e, times(read(a), read(b)))
	}
}

// long returns a series with many or great coefficients, among them such that sums of
// products are near the limits of machine integers.
func long(r *rand.Rand) api.Series {
	a := api.Series{From: r.Intn(10) - 5}
	bits := uint([]int{28, 29, 30, 31, 60, 63, 64, 200}[r.Intn(8)])
	for range 1 + r.Intn(40) {
		c := new(big.Int).Lsh(big.NewInt(1), bits)
		c.Sub(c, big.NewInt(int64(r.Intn(2))))
		if r.Intn(2) == 0 {
			c.Neg(c)
		}
		a.Coef = append(a.Coef, api.Rat{Num: fromBig(c), Den: fraction(1, 1).Num})
	}
	return a
}

func TestMulLimits(t *testing.T) { // P33.3
	got, e := series.Mul(of(-60, 1, 2), of(-41, 1))
	expectError(t, "Mul", got, e, api.ErrRange)
	got, e = series.Mul(of(-60), of(-41, 1))
	expectError(t, "Mul by an empty series", got, e, api.ErrRange)
	got, e = series.Mul(of(-60), of(-41))
	expectError(t, "Mul of empty series", got, e, api.ErrRange)
	got, e = series.Mul(of(-60, 1, 2), of(-40, 1, 3))
	expect(t, "Mul", got, e, read(of(-100, 1, 5)))
	got, e = series.Mul(of(600, 1, 2), of(500, 1, 2))
	expect(t, "Mul", got, e, read(of(1000)))
	got, e = series.Mul(of(600, 1, 2, 3), of(398, 1, 2, 3))
	expect(t, "Mul", got, e, read(of(998, 1, 4)))
}

func TestMulSizes(t *testing.T) { // P33.3: products and their sums are not cut off anywhere
	for _, count := range []int{1, 3, 7, 8, 15} {
		for x := 24; x <= 50; x++ {
			for y := 26; y <= 64; y++ {
				size := x + y + len(strconv.FormatInt(int64(count), 2))
				if size%32 < 30 && size%32 > 1 {
					continue
				}
				// The greatest numbers with x and y bits.
				a, b := greatest(uint(x), count), greatest(uint(y), count)
				minus, _ := series.Scale(fraction(-1, 1), a)
				for _, f := range []api.Series{a, minus} {
					got, e := series.Mul(f, b)
					expect(t, "Mul", got, e, times(read(f), read(b)))
				}
			}
		}
	}
}

// greatest returns a series with the coefficients 2^bits - 1.
func greatest(bits uint, count int) api.Series {
	c := new(big.Int).Lsh(big.NewInt(1), bits)
	c.Sub(c, big.NewInt(1))
	a := api.Series{}
	for range count {
		a.Coef = append(a.Coef, api.Rat{Num: fromBig(c), Den: fraction(1, 1).Num})
	}
	return a
}

func TestWholePrecision(t *testing.T) { // P33.3, P33.4, P33.5: from -MaxPole to MaxPrec
	a := of(-100, make([]int64, 1100)...)
	a.Coef[0], a.Coef[1099] = fraction(1, 1), fraction(5, 1)
	one := of(0, append([]int64{1}, make([]int64, 999)...)...)
	got, e := series.Mul(a, one)
	expect(t, "Mul", got, e, laurent{coef: read(a).coef, prec: 900})
	long := of(-50, append([]int64{1}, make([]int64, 1049)...)...)
	got, e = series.Mul(long, long)
	expect(t, "Mul", got, e, from(-100, 950, func(n int) *big.Rat { return big.NewRat(int64(max(0, -99-n)), 1) }))
	got, e = series.Power(a, 1)
	expect(t, "Power", got, e, read(a))
	got, e = series.Expand(long, 2)
	expect(t, "Expand", got, e, from(-100, 1000, func(n int) *big.Rat { return big.NewRat(int64(max(0, -99-n)), 1) }))
}

func TestInverse(t *testing.T) { // P33.3
	r := rand.New(rand.NewSource(342))
	for _, a := range samples(r, 100, 12) {
		f := read(a)
		got, e := series.Inverse(a)
		if f.order() == f.prec {
			expectError(t, "Inverse", got, e, api.ErrPole)
			continue
		}
		expect(t, "Inverse", got, e, reciprocal(f))
		for range 3 {
			b := random(r, 12)
			inverse, wanted := series.Inverse(a)
			var want api.Series
			if wanted == api.OK {
				want, wanted = series.Mul(b, inverse)
			}
			got, e := series.Quo(b, a)
			if e != wanted || !alike(got, want) {
				t.Errorf("Quo(%v, %v): %v, %d", show(b), show(a), show(got), e)
			}
		}
	}
	got, e := series.Inverse(of(100, 2))
	expect(t, "Inverse", got, e, laurent{coef: map[int]*big.Rat{-100: big.NewRat(1, 2)}, prec: -99})
	got, e = series.Inverse(of(101, 2))
	expectError(t, "Inverse", got, e, api.ErrRange)
	got, e = series.Quo(of(200, 1), of(101, 2))
	expectError(t, "Quo", got, e, api.ErrRange)
	got, e = series.Quo(of(0, 1), of(0, 0, 0))
	expectError(t, "Quo", got, e, api.ErrPole)
	got, e = series.Quo(invalid()[0], of(0, 0, 0))
	expectError(t, "Quo", got, e, api.ErrRange)
}

func TestInverseCut(t *testing.T) { // P33.3: the precision of results is at most MaxPrec
	a := of(-100, make([]int64, 1100)...)
	a.Coef[0], a.Coef[1] = fraction(1, 1), fraction(-1, 1)
	got, e := series.Inverse(a)
	expect(t, "Inverse", got, e, from(100, 1000, func(int) *big.Rat { return big.NewRat(1, 1) }))
	// The quotient is made of that inverse, of which 900 coefficients are known.
	got, e = series.Quo(a, a)
	expect(t, "Quo", got, e, from(0, 900, func(n int) *big.Rat { return big.NewRat(int64(max(0, 1-n)), 1) }))
}

// powerOf returns f^n for an f that is not empty.
func powerOf(f laurent, n int) laurent {
	relative := f.prec - f.order()
	g := from(0, relative, func(m int) *big.Rat { return big.NewRat(int64(max(0, 1-m)), 1) })
	if n < 0 {
		f, n = reciprocal(f), -n
	}
	for range n {
		g = times(g, f)
	}
	return g
}

func TestPower(t *testing.T) { // P33.4
	r := rand.New(rand.NewSource(343))
	for _, a := range samples(r, 60, 7) {
		f := read(a)
		for _, n := range []int{0, 1, 2, 3, 5, 8, -1, -2, -3} {
			got, e := series.Power(a, n)
			switch {
			case f.order() < f.prec:
				expect(t, "Power", got, e, powerOf(f, n))
			case n < 0:
				expectError(t, "Power", got, e, api.ErrPole)
			default:
				expect(t, "Power", got, e, laurent{prec: n * f.prec})
			}
		}
		for _, n := range []int{201, -201, math.MinInt, math.MaxInt} {
			got, e := series.Power(a, n)
			expectError(t, "Power", got, e, api.ErrRange)
		}
	}
}

func TestPowerLimits(t *testing.T) { // P33.4
	binomial := func(n int64) func(int) *big.Rat {
		return func(k int) *big.Rat { return new(big.Rat).SetInt(new(big.Int).Binomial(n, int64(k))) }
	}
	one := of(0, append([]int64{1, 1}, make([]int64, 248)...)...)
	got, e := series.Power(one, 200)
	expect(t, "Power 200", got, e, from(0, 250, binomial(200)))
	got, e = series.Power(one, -200)
	expect(t, "Power -200", got, e, from(0, 250, func(k int) *big.Rat {
		c := binomial(int64(199 + k))(k)
		if k%2 == 1 {
			c.Neg(c)
		}
		return c
	}))
	got, e = series.Power(of(-1, 3), 101)
	expectError(t, "Power", got, e, api.ErrRange)
	got, e = series.Power(of(1, 3), -101)
	expectError(t, "Power", got, e, api.ErrRange)
	got, e = series.Power(of(-1), 101)
	expectError(t, "Power of an empty series", got, e, api.ErrRange)
	got, e = series.Power(of(-1), 201)
	expectError(t, "Power of an empty series", got, e, api.ErrRange)
	got, e = series.Power(of(6), 200)
	expect(t, "Power of an empty series", got, e, laurent{prec: 1000})
	got, e = series.Power(of(5, 2, 1), 199)
	expect(t, "Power", got, e, powerOf(read(of(5, 2, 1)), 199))
	for _, a := range []api.Series{of(5, 1, 1), of(6, 1, 1), of(-5, 1, 1)} {
		got, e = series.Power(a, 200)
		want, wanted := write(laurent{coef: map[int]*big.Rat{}, prec: 1000})
		if a.From < 0 {
			want, wanted = api.Series{}, api.ErrRange
		}
		if e != wanted || !alike(got, want) {
			t.Errorf("Power: %v, %d", show(got), e)
		}
	}
}

func TestPowerOfGreatNumbers(t *testing.T) { // P33.4: coefficients have no limit
	huge := new(big.Int).Lsh(big.NewInt(1), 6000)
	huge.Sub(huge, big.NewInt(1))
	a := api.Series{Coef: []api.Rat{{Num: fromBig(huge), Den: fraction(3, 1).Num}}}
	for _, n := range []int{200, -200} {
		got, e := series.Power(a, n)
		num, den := new(big.Int).Exp(huge, big.NewInt(200), nil), new(big.Int).Exp(big.NewInt(3), big.NewInt(200), nil)
		want := new(big.Rat).SetFrac(num, den)
		if n < 0 {
			want.Inv(want)
		}
		expect(t, "Power", got, e, laurent{coef: map[int]*big.Rat{0: want}, prec: 1})
	}
}

// factorPower returns (1 - q^n)^c with the given precision.
func factorPower(n int, c *big.Rat, prec int) laurent {
	f := laurent{coef: map[int]*big.Rat{0: big.NewRat(1, 1)}, prec: prec}
	term := big.NewRat(1, 1)
	for i := 1; i*n < prec; i++ {
		// binomial(c, i) = binomial(c, i-1) (c - i + 1)/i, and the sign changes.
		factor := new(big.Rat).Sub(c, big.NewRat(int64(i-1), 1))
		term = new(big.Rat).Mul(term, factor.Mul(factor, big.NewRat(-1, int64(i))))
		f.coef[i*n] = term
	}
	return f
}

func TestProduct(t *testing.T) { // P33.7
	r := rand.New(rand.NewSource(344))
	for range 60 {
		h, c := r.Intn(40)-20, random(r, 9).Coef
		want := laurent{coef: map[int]*big.Rat{h: big.NewRat(1, 1)}, prec: h + len(c) + 1}
		for i, x := range c {
			want = times(want, factorPower(i+1, toRat(x), len(c)+1))
		}
		got, e := series.Product(h, c)
		expect(t, "Product", got, e, want)
		back, exps, e := series.Exponents(got)
		if e != api.OK || back != h || len(exps) != len(c) {
			t.Errorf("Exponents: %d, %v, %d", back, exps, e)
		}
		for i, x := range exps {
			if !sameRats([]api.Rat{x}, []api.Rat{fromRat(toRat(c[i]))}) {
				t.Errorf("Exponents of the product of %v: %v", c, exps)
			}
		}
	}
}

func TestProductLimits(t *testing.T) { // P33.7
	for _, h := range []int{-101, 1001, math.MinInt, math.MaxInt, 1000} {
		got, e := series.Product(h, nil)
		expectError(t, "Product", got, e, api.ErrRange)
	}
	got, e := series.Product(999, nil)
	expect(t, "Product", got, e, read(of(999, 1)))
	got, e = series.Product(-100, nil)
	expect(t, "Product", got, e, read(of(-100, 1)))
	got, e = series.Product(-100, make([]api.Rat, 1100))
	expectError(t, "Product", got, e, api.ErrRange)
	got, e = series.Product(-100, make([]api.Rat, 1099))
	expect(t, "Product", got, e, laurent{coef: map[int]*big.Rat{-100: big.NewRat(1, 1)}, prec: 1000})
	h, c, e := series.Exponents(got)
	if e != api.OK || h != -100 || len(c) != 1099 {
		t.Errorf("Exponents: %d, %d exponents, %d", h, len(c), e)
	}
}

func TestExponents(t *testing.T) { // P33.7
	r := rand.New(rand.NewSource(345))
	for _, a := range samples(r, 60, 9) {
		f := read(a)
		h, c, e := series.Exponents(a)
		switch {
		case f.order() == f.prec:
			expectError(t, "Exponents", h, e, api.ErrPole)
		case f.at(f.order()).Cmp(big.NewRat(1, 1)) != 0:
			expectError(t, "Exponents", h, e, api.ErrForm)
		default:
			want := laurent{coef: map[int]*big.Rat{h: big.NewRat(1, 1)}, prec: f.prec}
			for i, x := range c {
				want = times(want, factorPower(i+1, toRat(x), len(c)+1))
			}
			expect(t, "Exponents", normal(t, a), e, want)
		}
	}
	for _, a := range []api.Series{of(3, 2, 1), of(3, -1, 1), {Coef: []api.Rat{fraction(1, 2)}}} {
		h, c, e := series.Exponents(a)
		expectError(t, "Exponents", h, e, api.ErrForm)
		if c != nil {
			t.Errorf("Exponents: %v beside an error", c)
		}
	}
	// Euler's product, whose coefficients are those of the pentagonal numbers.
	c := make([]api.Rat, 999)
	for i := range c {
		c[i] = fraction(1, 1)
	}
	got, e := series.Product(0, c)
	want := laurent{coef: map[int]*big.Rat{}, prec: 1000}
	for k := -40; k <= 40; k++ {
		want.coef[k*(3*k-1)/2] = big.NewRat(1-2*int64(k&1), 1)
	}
	expect(t, "Product", got, e, want)
}
