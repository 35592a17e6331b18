package bernoulli_test

import (
	"math"
	"math/big"
	"testing"

	"halfplane/api"
	"halfplane/bernoulli"
)

// number returns B_n.
func number(t *testing.T, n int) *big.Rat {
	t.Helper()
	b, e := bernoulli.Number(n)
	if e != api.OK {
		t.Fatal(n, e)
	}
	return toRat(t, b)
}

// polynomial returns the coefficients of B_n(x).
func polynomial(t *testing.T, n int) []*big.Rat {
	t.Helper()
	f, e := bernoulli.Polynomial(n)
	if e != api.OK {
		t.Fatal(n, e)
	}
	var l []*big.Rat
	for _, c := range f {
		l = append(l, toRat(t, c))
	}
	return l
}

func TestNumber(t *testing.T) { // P30.1
	for n := 0; n <= 60; n++ {
		if b, want := number(t, n), bernoulliOf(n); b.Cmp(want) != 0 {
			t.Error(n, b, want)
		}
		sum := new(big.Rat)
		for k := 0; k <= n && n > 0; k++ {
			sum.Add(sum, new(big.Rat).Mul(binomial(n+1, k), number(t, k)))
		}
		if sum.Sign() != 0 {
			t.Error(n, sum)
		}
	}
	for n, want := range map[int]string{0: "1", 1: "-1/2", 2: "1/6", 3: "0", 4: "-1/30", 6: "1/42", 8: "-1/30", 10: "5/66", 12: "-691/2730", 14: "7/6", 20: "-174611/330", 59: "0", 60: "-1215233140483755572040304994079820246041491/56786730"} {
		if b := number(t, n); b.RatString() != want {
			t.Error(n, b)
		}
	}
	for _, n := range []int{-1, -2, 61, 62, math.MaxInt, math.MinInt} {
		if b, e := bernoulli.Number(n); e != api.ErrRange || !isNone(b) {
			t.Error(n, b, e)
		}
	}
}

func TestPolynomial(t *testing.T) { // P30.1
	for n := 0; n <= 40; n++ {
		f := polynomial(t, n)
		if len(f) != n+1 {
			t.Fatal(n, f)
		}
		for k, c := range f {
			if want := new(big.Rat).Mul(binomial(n, k), bernoulliOf(n-k)); c.Cmp(want) != 0 {
				t.Error(n, k, c, want)
			}
		}
		for x := -n; x <= n+3; x++ {
			at := big.NewRat(int64(x), int64(1+n%5))
			next := evaluate(f, new(big.Rat).Add(at, whole(1)))
			want := new(big.Rat)
			if n > 0 {
				want.Set(whole(n))
			}
			for range n - 1 {
				want.Mul(want, at)
			}
			if next.Sub(next, evaluate(f, at)).Cmp(want) != 0 {
				t.Fatal(n, at, next, want)
			}
			mirror := evaluate(f, new(big.Rat).Sub(whole(1), at))
			if n%2 == 1 {
				mirror.Neg(mirror)
			}
			if mirror.Cmp(evaluate(f, at)) != 0 {
				t.Fatal(n, at)
			}
		}
	}
	f := polynomial(t, 2)
	if f[0].RatString() != "1/6" || f[1].RatString() != "-1" || f[2].RatString() != "1" {
		t.Error(f)
	}
	for _, n := range []int{-1, 41, 60, math.MaxInt, math.MinInt} {
		if f, e := bernoulli.Polynomial(n); e != api.ErrRange || len(f) != 0 {
			t.Error(n, f, e)
		}
	}
}

func TestStaudt(t *testing.T) { // P30.2
	for n := 2; n <= 60; n += 2 {
		sum := number(t, n)
		for p := 2; p <= n+1; p++ {
			if isPrime(p) && n%(p-1) == 0 {
				sum.Add(sum, big.NewRat(1, int64(p)))
			}
		}
		if !sum.IsInt() {
			t.Error(n, sum)
		}
	}
}

func TestKummer(t *testing.T) { // P30.2
	pairs := 0
	for p := 5; p <= 61; p++ {
		if !isPrime(p) {
			continue
		}
		for k := 2; k <= 60; k += 2 {
			for l := k + p - 1; l <= 60 && k%(p-1) != 0; l += p - 1 {
				difference := new(big.Rat).Quo(number(t, k), whole(k))
				difference.Sub(difference, new(big.Rat).Quo(number(t, l), whole(l)))
				q := big.NewInt(int64(p))
				if new(big.Int).Mod(difference.Num(), q).Sign() != 0 || new(big.Int).Mod(difference.Denom(), q).Sign() == 0 {
					t.Error(p, k, l, difference)
				}
				pairs++
			}
		}
	}
	if pairs < 300 {
		t.Error(pairs)
	}
}

func TestPowerSum(t *testing.T) { // P30.4
	for k := 0; k <= 40; k++ {
		sum := new(big.Int)
		last := 60
		if k%10 == 0 || k == 1 {
			last = 10000
		}
		for n := 0; n <= last; n++ {
			if n <= 60 || n%1000 == 0 {
				if s, e := bernoulli.PowerSum(k, n); e != api.OK || toInt(t, s).Cmp(sum) != 0 {
					t.Fatal(k, n, s, sum, e)
				}
			}
			if k == 0 {
				sum.Add(sum, big.NewInt(1))
			} else {
				sum.Add(sum, power(n, k))
			}
		}
	}
	for k := 0; k < 40; k++ {
		for _, n := range []int{0, 1, 2, 77, 10000} {
			s, e := bernoulli.PowerSum(k, n)
			want := evaluate(polynomial(t, k+1), whole(n))
			want.Sub(want, number(t, k+1))
			if e != api.OK || want.Cmp(new(big.Rat).Mul(whole(k+1), new(big.Rat).SetInt(toInt(t, s)))) != 0 {
				t.Error(k, n, s, e)
			}
		}
	}
	for _, c := range []struct{ k, n, want int }{{2, 5, 30}, {0, 0, 0}, {0, 1, 1}, {0, 7, 7}, {3, 1, 0}, {1, 101, 5050}, {40, 2, 1}, {3, 4, 36}} {
		if s, e := bernoulli.PowerSum(c.k, c.n); e != api.OK || toInt(t, s).Cmp(big.NewInt(int64(c.want))) != 0 {
			t.Error(c, s, e)
		}
	}
	for _, c := range [][2]int{{-1, 5}, {41, 5}, {5, -1}, {5, 10001}, {-1, -1}, {math.MaxInt, 1}, {math.MinInt, 1}, {1, math.MaxInt}, {1, math.MinInt}} {
		if s, e := bernoulli.PowerSum(c[0], c[1]); e != api.ErrRange || s.Neg || len(s.Mag) != 0 {
			t.Error(c, s, e)
		}
	}
}

// Results share no memory, and nothing of them is used by a later call.
func TestMemory(t *testing.T) { // R3
	for n := range 12 {
		f, _ := bernoulli.Polynomial(n)
		checkMemory(t, f)
		b, _ := bernoulli.Number(n)
		checkMemory(t, []api.Rat{b})
		if number(t, n).Cmp(bernoulliOf(n)) != 0 || polynomial(t, n)[0].Cmp(bernoulliOf(n)) != 0 {
			t.Error(n)
		}
	}
	for k := 1; k < 9; k++ {
		for _, x := range []api.Character{{Modulus: 7, Exps: []int{1}}, {Modulus: 11, Exps: []int{1}}, {Modulus: 5, Exps: []int{2}}, {Modulus: 1}, {Modulus: 4, Exps: []int{1}}} {
			a, _, _ := bernoulli.Character(k, x)
			checkMemory(t, a)
		}
		b, _ := bernoulli.Quadratic(k, 5)
		checkMemory(t, []api.Rat{b})
	}
}
