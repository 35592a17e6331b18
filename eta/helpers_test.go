package eta_test

import (
	"math/big"
	"math/rand"
	"reflect"
	"slices"
	"testing"

	"halfplane/api"
	"halfplane/eta"
)

// gcd is Euclid's algorithm, for comparison.
func gcd(a, b int) int {
	for b != 0 {
		a, b = b, a%b
	}
	return max(a, -a)
}

// divisors returns the divisors of n.
func divisors(n int) []int {
	var l []int
	for d := 1; d <= n; d++ {
		if n%d == 0 {
			l = append(l, d)
		}
	}
	return l
}

// phi counts the units modulo n.
func phi(n int) int {
	count := 0
	for a := range n {
		if gcd(a, n) == 1 {
			count++
		}
	}
	return count
}

// psi returns n times the product of 1 + 1/p over the primes p that divide n.
func psi(n int) int {
	value, rest := n, n
	for p := 2; rest > 1; p++ {
		if rest%p == 0 {
			value += value / p
		}
		for rest%p == 0 {
			rest /= p
		}
	}
	return value
}

// toBig reads an integer as its digits denote it.
func toBig(a api.Int) *big.Int {
	z := new(big.Int)
	for _, d := range slices.Backward(a.Mag) {
		z.Lsh(z, 32).Or(z, big.NewInt(int64(d)))
	}
	if a.Neg {
		z.Neg(z)
	}
	return z
}

// toRat reads a fraction of a result.
func toRat(a api.Rat) *big.Rat {
	return new(big.Rat).SetFrac(toBig(a.Num), toBig(a.Den))
}

// isNormal reports whether a fraction is in lowest terms.
func isNormal(a api.Rat) bool {
	x := toRat(a)
	return x.Num().Cmp(toBig(a.Num)) == 0 && x.Denom().Cmp(toBig(a.Den)) == 0 &&
		(len(a.Num.Mag) == 0 && !a.Num.Neg || len(a.Num.Mag) > 0 && a.Num.Mag[len(a.Num.Mag)-1] != 0)
}

// expectError checks that a result is an error with a zero value beside it.
func expectError(t *testing.T, name string, got any, e, want api.Errno) {
	t.Helper()
	if e != want || !reflect.ValueOf(got).IsZero() {
		t.Errorf("%s: %v, %d; want error %d", name, got, e, want)
	}
}

// of returns an eta quotient.
func of(level int, exps ...int) api.Eta {
	return api.Eta{Level: level, Exps: exps}
}

// random returns an eta quotient with exponents up to a limit.
func random(r *rand.Rand, level, limit int) api.Eta {
	e := api.Eta{Level: level}
	for range divisors(level) {
		e.Exps = append(e.Exps, r.Intn(2*limit+1)-limit)
	}
	return e
}

// same reports whether two eta quotients are equal.
func same(a, b api.Eta) bool {
	return a.Level == b.Level && slices.Equal(a.Exps, b.Exps)
}

// half returns twice the weight.
func half(e api.Eta) int {
	s := 0
	for _, r := range e.Exps {
		s += r
	}
	return s
}

// orderOf returns the order at the denominator c, by the definition.
func orderOf(e api.Eta, c int) *big.Rat {
	s := new(big.Rat)
	for i, d := range divisors(e.Level) {
		g := gcd(c, d)
		s.Add(s, big.NewRat(int64(g*g*e.Exps[i]), int64(d)))
	}
	return s.Mul(s, big.NewRat(int64(e.Level), int64(24*gcd(c, e.Level/c)*c)))
}

// isModular follows the definition.
func isModular(e api.Eta) bool {
	s, u := 0, 0
	for i, d := range divisors(e.Level) {
		s += d * e.Exps[i]
		u += e.Level / d * e.Exps[i]
	}
	return half(e)%2 == 0 && s%24 == 0 && u%24 == 0
}

// isHolomorphic follows the definition.
func isHolomorphic(e api.Eta) bool {
	for _, c := range divisors(e.Level) {
		if orderOf(e, c).Sign() < 0 {
			return false
		}
	}
	return true
}

// expansion multiplies by 1 - q^n, or divides by it, one factor after another. It returns
// the coefficients from the first exponent on.
func expansion(e api.Eta, count int) (first int, coef []*big.Int) {
	coef = make([]*big.Int, count)
	for i := range coef {
		coef[i] = big.NewInt(int64(max(0, 1-i)))
	}
	for i, d := range divisors(e.Level) {
		first += d * e.Exps[i]
		for n := d; n < count; n += d {
			for range max(e.Exps[i], -e.Exps[i]) {
				multiply(coef, n, e.Exps[i] < 0)
			}
		}
	}
	return first / 24, coef
}

// multiply multiplies a series by 1 - q^n, or divides it by that.
func multiply(coef []*big.Int, n int, inverse bool) {
	if inverse {
		for i := n; i < len(coef); i++ {
			coef[i].Add(coef[i], coef[i-n])
		}
		return
	}
	for i := len(coef) - 1; i >= n; i-- {
		coef[i].Sub(coef[i], coef[i-n])
	}
}

// read returns the exponent from which on a series is known, and its coefficients.
func read(a api.Series) []int64 {
	var l []int64
	for _, c := range a.Coef {
		l = append(l, toRat(c).Num().Int64())
	}
	return l
}

// invalid returns eta quotients with their errors.
func invalid() map[api.Errno][]api.Eta {
	return map[api.Errno][]api.Eta{
		api.ErrRange: {of(0), of(-1, 1), of(601, 1, 1), of(1, 201), of(1, -201), of(2, 0, 201), of(2, 0, -1<<63), of(1<<62, 1), of(-1<<63, 1)},
		api.ErrShape: {of(1), of(1, 300, 300), of(2, 201), of(4, 0, 0), of(6, 1, 2, 3, 4, 5)},
	}
}

// must returns a result that has no error.
func must(t *testing.T) func(e api.Eta, code api.Errno) api.Eta {
	return func(e api.Eta, code api.Errno) api.Eta {
		t.Helper()
		if code != api.OK || eta.Check(e) != api.OK {
			t.Fatalf("%v, error %d", e, code)
		}
		return e
	}
}
