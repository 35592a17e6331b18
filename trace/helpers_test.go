package trace_test

import (
	"math/big"
	"slices"
	"testing"

	"halfplane/api"
	"halfplane/dimension"
	"halfplane/trace"
)

// gcd is Euclid's algorithm, for comparison.
func gcd(a, b int) int {
	for b != 0 {
		a, b = b, a%b
	}
	return max(a, -a)
}

// divisors returns the divisors of n.
func divisors(n int) []int {
	var l []int
	for d := 1; d <= n; d++ {
		if n%d == 0 {
			l = append(l, d)
		}
	}
	return l
}

func isPrime(n int) bool {
	return len(divisors(n)) == 2
}

// units counts the units modulo n.
func units(n int) int {
	count := 0
	for a := 1; a <= n; a++ {
		if gcd(a, n) == 1 {
			count++
		}
	}
	return count
}

// psi is the index of Gamma0(n).
func psi(n int) int {
	index := n
	for p := 2; p <= n; p++ {
		if n%p == 0 && isPrime(p) {
			index += index / p
		}
	}
	return index
}

// toInt reads an integer as its digits denote it.
func toInt(a api.Int) *big.Int {
	z := new(big.Int)
	for _, d := range slices.Backward(a.Mag) {
		z.Lsh(z, 32).Or(z, big.NewInt(int64(d)))
	}
	if a.Neg {
		z.Neg(z)
	}
	return z
}

// toRat reads a normalized fraction.
func toRat(t *testing.T, a api.Rat) *big.Rat {
	t.Helper()
	d := toInt(a.Den)
	if d.Sign() <= 0 {
		t.Fatal("not normalized", a)
	}
	x := new(big.Rat).SetFrac(toInt(a.Num), d)
	if x.Denom().Cmp(d) != 0 || isPadded(a.Num) || isPadded(a.Den) {
		t.Fatal("not normalized", a)
	}
	return x
}

// isPadded reports whether an integer is not normalized.
func isPadded(a api.Int) bool {
	n := len(a.Mag)
	return n == 0 && a.Neg || n > 0 && a.Mag[n-1] == 0
}

// traceOf returns a trace.
func traceOf(t *testing.T, s api.Spec, n int) *big.Int {
	t.Helper()
	a, e := trace.Trace(s, n)
	if e != api.OK || isPadded(a) {
		t.Fatal(s, n, a, e)
	}
	return toInt(a)
}

// dims returns the dimensions of the spaces of cusp forms and of new forms.
func dims(t *testing.T, s api.Spec) (cusp, fresh int) {
	t.Helper()
	cusp, e := dimension.Cusp(s)
	fresh, f := dimension.New(s)
	if e != api.OK || f != api.OK {
		t.Fatal(s, e, f)
	}
	return cusp, fresh
}

// specs returns all spaces.
func specs() []api.Spec {
	var l []api.Spec
	for n := 1; n <= api.MaxLevel; n++ {
		for d := -n; d <= n; d++ {
			if d == 0 || n%d != 0 {
				continue
			}
			for k := 2; k <= api.MaxWeight; k++ {
				if s := (api.Spec{Level: n, Weight: k, Disc: d}); dimension.Check(s) == api.OK {
					l = append(l, s)
				}
			}
		}
	}
	return l
}

// symbol is the value of the quadratic character of d at a > 0, by the definition.
func symbol(d, a int) int {
	sign := 1
	for p := 2; a > 1; p++ {
		for a%p == 0 {
			a /= p
			sign *= symbolOfPrime(d, p)
		}
	}
	return sign
}

func symbolOfPrime(d, p int) int {
	if d%p == 0 {
		return 0
	}
	if p == 2 {
		if r := (d%8 + 8) % 8; r == 1 || r == 7 {
			return 1
		}
		return -1
	}
	for x := 1; x < p; x++ {
		if (x*x-d)%p == 0 {
			return 1
		}
	}
	return -1
}

// classNumber counts the reduced primitive forms of a discriminant.
func classNumber(d int) int {
	count := 0
	for a := 1; a*a <= -d; a++ {
		for b := 1 - a; b <= a; b++ {
			c := (b*b - d) / (4 * a)
			if b*b-4*a*c == d && (a < c || a == c && b >= 0) && gcd(gcd(a, b), c) == 1 {
				count++
			}
		}
	}
	return count
}

// power returns a to the power n.
func power(a, n int) *big.Int {
	return new(big.Int).Exp(big.NewInt(int64(a)), big.NewInt(int64(n)), nil)
}

// quotient returns a/b.
func quotient(a, b int) *big.Rat {
	return big.NewRat(int64(a), int64(b))
}

// A series contains the coefficients of q^0, q^1 and so on.
type series []*big.Int

// times returns f * g.
func (f series) times(g series) series {
	h := make(series, len(f))
	for i := range h {
		h[i] = new(big.Int)
		for j := range i + 1 {
			h[i].Add(h[i], new(big.Int).Mul(f[j], g[i-j]))
		}
	}
	return h
}

// one returns the series 1 with a number of coefficients.
func one(length int) series {
	f := make(series, length)
	for i := range f {
		f[i] = new(big.Int)
	}
	f[0].SetInt64(1)
	return f
}

// etaProduct returns the product of eta(d z)^r over the pairs (d, r), with r > 0.
func etaProduct(length int, pairs map[int]int) series {
	f := one(length)
	order := 0
	for d, r := range pairs {
		order += d * r
		for n := d; n < length; n += d {
			for range r {
				// Multiply by 1 - q^n.
				for i := length - 1; i >= n; i-- {
					f[i].Sub(f[i], f[i-n])
				}
			}
		}
	}
	shifted := one(length)
	shifted[0].SetInt64(0)
	copy(shifted[order/24:], f[:length-order/24])
	return shifted
}

// eisenstein returns E4 or E6.
func eisenstein(length, k int) series {
	f := one(length)
	c := map[int]int64{4: 240, 6: -504}[k]
	for n := 1; n < length; n++ {
		for _, d := range divisors(n) {
			f[n].Add(f[n], power(d, k-1))
		}
		f[n].Mul(f[n], big.NewInt(c))
	}
	return f
}
