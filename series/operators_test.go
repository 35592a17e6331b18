package series_test

import (
	"math"
	"math/big"
	"math/rand"
	"testing"

	"halfplane/api"
	"halfplane/series"
)

// remainder returns the remainder of n modulo m that is not negative.
func remainder(n, m int) int {
	return ((n % m) + m) % m
}

func TestTheta(t *testing.T) { // P33.5
	r := rand.New(rand.NewSource(351))
	for _, a := range samples(r, 60, 12) {
		f := read(a)
		got, e := series.Theta(a)
		expect(t, "Theta", got, e, from(a.From, f.prec, func(n int) *big.Rat { return new(big.Rat).Mul(big.NewRat(int64(n), 1), f.at(n)) }))
	}
}

func TestExpand(t *testing.T) { // P33.5
	r := rand.New(rand.NewSource(352))
	for _, a := range samples(r, 60, 12) {
		f := read(a)
		for _, d := range []int{1, 2, 3, 4, 7, 30, 999, 1000} {
			want := laurent{coef: map[int]*big.Rat{}, prec: d * f.prec}
			for n, c := range f.coef {
				want.coef[d*n] = c
			}
			got, e := series.Expand(a, d)
			if d*f.order() < -100 {
				expectError(t, "Expand", got, e, api.ErrRange)
			} else {
				expect(t, "Expand", got, e, want)
			}
			// The least integer that is at least P/d.
			prec := f.prec / d
			for prec*d < f.prec {
				prec++
			}
			got, e = series.Contract(a, d)
			expect(t, "Contract", got, e, from(-100, prec, func(n int) *big.Rat { return f.at(d * n) }))
		}
	}
}

func TestContractPrecision(t *testing.T) { // P33.5: rounded up, below 0 too
	for _, l := range [][3]int{{-5, 2, -2}, {-4, 2, -2}, {-6, 4, -1}, {-1, 3, 0}, {0, 3, 0}, {1, 3, 1}, {3, 3, 1}, {4, 3, 2}, {1000, 7, 143}} {
		got, e := series.Contract(of(l[0]), l[1])
		expect(t, "Contract", got, e, laurent{prec: l[2]})
	}
}

func TestSieve(t *testing.T) { // P33.5
	r := rand.New(rand.NewSource(353))
	for _, a := range samples(r, 60, 12) {
		f := read(a)
		for _, m := range []int{1, 2, 3, 5, 1000} {
			for _, res := range []int{0, 1, 2, -1, m, -m - 1, math.MinInt, math.MaxInt} {
				want := from(a.From, f.prec, func(n int) *big.Rat {
					if remainder(n, m) != remainder(res, m) {
						return new(big.Rat)
					}
					return f.at(n)
				})
				got, e := series.Sieve(a, m, res)
				expect(t, "Sieve", got, e, want)
			}
		}
	}
}

func TestModuli(t *testing.T) { // P33.5
	for _, d := range []int{0, -1, 1001, math.MinInt, math.MaxInt} {
		got, e := series.Expand(of(0, 1), d)
		expectError(t, "Expand", got, e, api.ErrRange)
		got, e = series.Contract(of(0, 1), d)
		expectError(t, "Contract", got, e, api.ErrRange)
		got, e = series.Sieve(of(0, 1), d, 0)
		expectError(t, "Sieve", got, e, api.ErrRange)
	}
}

// isFundamental reports whether d is 1 or a fundamental discriminant, by the definition.
func isFundamental(d int) bool {
	squarefree := func(n int) bool {
		for p := 2; p*p <= max(n, -n); p++ {
			if n%(p*p) == 0 {
				return false
			}
		}
		return n != 0
	}
	if remainder(d, 4) == 1 {
		return squarefree(d)
	}
	return d%4 == 0 && remainder(d/4, 4) >= 2 && squarefree(d/4)
}

// symbol returns the Kronecker symbol (d/n) of a fundamental discriminant or 1.
func symbol(d, n int) int64 {
	switch {
	case n == 0 && d == 1:
		return 1
	case n == 0:
		return 0
	case n < 0 && d < 0:
		return -symbol(d, -n)
	case n < 0:
		return symbol(d, -n)
	}
	value := int64(1)
	for p := 2; n > 1; p++ {
		for ; n%p == 0; n /= p {
			value *= primeSymbol(d, p)
		}
	}
	return value
}

// primeSymbol returns the symbol (d/p) of a prime p.
func primeSymbol(d, p int) int64 {
	switch {
	case d%p == 0:
		return 0
	case p == 2 && remainder(d, 8) != 1:
		return -1
	case p == 2:
		return 1
	}
	for x := range p {
		if (x*x-d)%p == 0 {
			return 1
		}
	}
	return -1
}

func TestTwist(t *testing.T) { // P33.5
	r := rand.New(rand.NewSource(354))
	for _, a := range samples(r, 12, 12) {
		f := read(a)
		for _, d := range []int{1, -3, -4, 5, -7, 8, -8, 12, 13, -15, 1000 - 3, -1000 + 5, -996 - 3, 997, 985, 60} {
			if !isFundamental(d) {
				continue
			}
			got, e := series.Twist(a, d)
			expect(t, "Twist", got, e, from(a.From, f.prec, func(n int) *big.Rat { return new(big.Rat).Mul(big.NewRat(symbol(d, n), 1), f.at(n)) }))
		}
	}
	for d := -1010; d <= 1010; d++ {
		_, e := series.Twist(of(0, 1), d)
		want := api.ErrDisc
		if d >= -1000 && d <= 1000 && isFundamental(d) {
			want = api.OK
		}
		if e != want {
			t.Errorf("Twist by %d: %d", d, e)
		}
	}
	for _, d := range []int{0, -1, 4, 9, 1001, -1003, 1005, math.MinInt, math.MaxInt} {
		got, e := series.Twist(of(0, 1), d)
		expectError(t, "Twist", got, e, api.ErrDisc)
	}
}
