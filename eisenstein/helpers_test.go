package eisenstein_test

import (
	"math/big"
	"reflect"
	"slices"
	"testing"

	"halfplane/api"
)

// toBig reads an integer as its digits denote it.
func toBig(a api.Int) *big.Int {
	z := new(big.Int)
	for _, d := range slices.Backward(a.Mag) {
		z.Lsh(z, 32).Or(z, big.NewInt(int64(d)))
	}
	if a.Neg {
		z.Neg(z)
	}
	return z
}

// fromBig returns an integer, normalized.
func fromBig(z *big.Int) api.Int {
	var mag []uint32
	rest := new(big.Int).Abs(z)
	for rest.Sign() != 0 {
		mag = append(mag, uint32(rest.Uint64()))
		rest.Rsh(rest, 32)
	}
	return api.Int{Neg: z.Sign() < 0, Mag: mag}
}

// toRat reads a fraction of a result.
func toRat(a api.Rat) *big.Rat {
	return new(big.Rat).SetFrac(toBig(a.Num), toBig(a.Den))
}

// fromRat returns a fraction, normalized.
func fromRat(x *big.Rat) api.Rat {
	return api.Rat{Num: fromBig(x.Num()), Den: fromBig(x.Denom())}
}

// written returns the normalized series with these coefficients from q^0 on.
func written(coef []*big.Rat) api.Series {
	var a api.Series
	for _, x := range coef {
		if x.Sign() == 0 && len(a.Coef) == 0 {
			a.From++
			continue
		}
		a.Coef = append(a.Coef, fromRat(x))
	}
	return a
}

// read returns the coefficients of a series from q^0 on.
func read(a api.Series) []*big.Rat {
	l := make([]*big.Rat, a.From+len(a.Coef))
	for n := range l {
		l[n] = new(big.Rat)
		if n >= a.From {
			l[n] = toRat(a.Coef[n-a.From])
		}
	}
	return l
}

// integers returns coefficients.
func integers(l ...int64) []*big.Rat {
	coef := make([]*big.Rat, len(l))
	for i, n := range l {
		coef[i] = big.NewRat(n, 1)
	}
	return coef
}

// alike reports whether two series are equal.
func alike(a, b api.Series) bool {
	return a.From == b.From && slices.EqualFunc(a.Coef, b.Coef, func(x, y api.Rat) bool {
		return sameInt(x.Num, y.Num) && sameInt(x.Den, y.Den)
	})
}

// sameInt reports whether two normalized integers are equal.
func sameInt(a, b api.Int) bool {
	return a.Neg == b.Neg && slices.Equal(a.Mag, b.Mag)
}

// expectError checks that a result is an error with a zero value beside it.
func expectError(t *testing.T, name string, got any, e, want api.Errno) {
	t.Helper()
	if e != want || !reflect.ValueOf(got).IsZero() {
		t.Errorf("%s: %v, %d; want error %d", name, got, e, want)
	}
}

// remainder returns the remainder of n modulo m that is not negative.
func remainder(n, m int) int {
	return ((n % m) + m) % m
}

// gcd is Euclid's algorithm, for comparison.
func gcd(a, b int) int {
	for b != 0 {
		a, b = b, a%b
	}
	return max(a, -a)
}

// isFundamental reports whether d is 1 or a fundamental discriminant, by the definition.
func isFundamental(d int) bool {
	squarefree := func(n int) bool {
		for p := 2; p*p <= max(n, -n); p++ {
			if n%(p*p) == 0 {
				return false
			}
		}
		return n != 0
	}
	if remainder(d, 4) == 1 {
		return squarefree(d)
	}
	return d%4 == 0 && remainder(d/4, 4) >= 2 && squarefree(d/4)
}

// discriminants returns 1 and the fundamental discriminants within the limits.
func discriminants() []int {
	var l []int
	for d := -60; d <= 60; d++ {
		if isFundamental(d) {
			l = append(l, d)
		}
	}
	return l
}

// symbol returns the Kronecker symbol (d/n) for an n > 0.
func symbol(d, n int) int64 {
	value := int64(1)
	for p := 2; n > 1; p++ {
		for ; n%p == 0; n /= p {
			value *= primeSymbol(d, p)
		}
	}
	return value
}

// primeSymbol returns the symbol (d/p) of a prime p.
func primeSymbol(d, p int) int64 {
	switch {
	case d%p == 0:
		return 0
	case p == 2 && remainder(d, 8) != 1:
		return -1
	case p == 2:
		return 1
	}
	for x := range p {
		if (x*x-d)%p == 0 {
			return 1
		}
	}
	return -1
}

// power returns n^k.
func power(n, k int) *big.Int {
	return new(big.Int).Exp(big.NewInt(int64(n)), big.NewInt(int64(k)), nil)
}

// bernoulliNumbers returns B_0 to B_n, by their recurrence.
func bernoulliNumbers(n int) []*big.Rat {
	b := []*big.Rat{big.NewRat(1, 1)}
	for m := 1; m <= n; m++ {
		sum := new(big.Rat)
		for j := range m {
			c := new(big.Rat).SetInt(new(big.Int).Binomial(int64(m+1), int64(j)))
			sum.Add(sum, c.Mul(c, b[j]))
		}
		b = append(b, sum.Mul(sum, big.NewRat(-1, int64(m+1))))
	}
	return b
}

// bernoulliAt returns B_k(x).
func bernoulliAt(k int, x *big.Rat) *big.Rat {
	b, sum := bernoulliNumbers(k), new(big.Rat)
	for j := k; j >= 0; j-- {
		// The coefficient of x^j is binomial(k, j) B_(k-j).
		c := new(big.Rat).SetInt(new(big.Int).Binomial(int64(k), int64(j)))
		sum.Mul(sum, x)
		sum.Add(sum, c.Mul(c, b[k-j]))
	}
	return sum
}

// constantOf returns -B/(2k) for the Bernoulli number of the quadratic character of d.
func constantOf(k, d int) *big.Rat {
	f := max(d, -d)
	sum := new(big.Rat)
	for a := 1; a <= f; a++ {
		value := bernoulliAt(k, big.NewRat(int64(a), int64(f)))
		sum.Add(sum, value.Mul(value, big.NewRat(symbol(d, a), 1)))
	}
	sum.Mul(sum, new(big.Rat).SetInt(power(f, k-1)))
	return sum.Mul(sum, big.NewRat(-1, int64(2*k)))
}

// divisorSum is the sum over the divisors d of n of (d1/(n/d)) (d2/d) d^k.
func divisorSum(k, d1, d2, n int) *big.Int {
	sum := new(big.Int)
	for d := 1; d <= n; d++ {
		if n%d == 0 {
			sign := big.NewInt(symbol(d1, n/d) * symbol(d2, d))
			sum.Add(sum, sign.Mul(sign, power(d, k)))
		}
	}
	return sum
}
