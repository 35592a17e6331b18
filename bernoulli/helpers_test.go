package bernoulli_test

import (
	"math/big"
	"slices"
	"testing"

	"halfplane/api"
	"halfplane/dirichlet"
)

// gcd is Euclid's algorithm, for comparison.
func gcd(a, b int) int {
	for b != 0 {
		a, b = b, a%b
	}
	return max(a, -a)
}

func isPrime(n int) bool {
	for p := 2; p*p <= n; p++ {
		if n%p == 0 {
			return false
		}
	}
	return n > 1
}

// phi counts the units modulo n.
func phi(n int) int {
	count := 0
	for a := range n {
		if gcd(a, n) == 1 {
			count++
		}
	}
	return count
}

// toInt reads a normalized integer.
func toInt(t *testing.T, a api.Int) *big.Int {
	t.Helper()
	if n := len(a.Mag); n == 0 && a.Neg || n > 0 && a.Mag[n-1] == 0 {
		t.Fatal("not normalized", a)
	}
	z := new(big.Int)
	for _, d := range slices.Backward(a.Mag) {
		z.Lsh(z, 32).Or(z, big.NewInt(int64(d)))
	}
	if a.Neg {
		z.Neg(z)
	}
	return z
}

// toRat reads a normalized fraction.
func toRat(t *testing.T, a api.Rat) *big.Rat {
	t.Helper()
	d := toInt(t, a.Den)
	if d.Sign() <= 0 {
		t.Fatal("not normalized", a)
	}
	x := new(big.Rat).SetFrac(toInt(t, a.Num), d)
	if x.Denom().Cmp(d) != 0 {
		t.Fatal("not normalized", a)
	}
	return x
}

// isNone reports whether a fraction is the zero value.
func isNone(a api.Rat) bool {
	return !a.Num.Neg && !a.Den.Neg && len(a.Num.Mag)+len(a.Den.Mag) == 0
}

func binomial(n, k int) *big.Rat {
	return new(big.Rat).SetInt(new(big.Int).Binomial(int64(n), int64(k)))
}

func power(a, n int) *big.Int {
	return new(big.Int).Exp(big.NewInt(int64(a)), big.NewInt(int64(n)), nil)
}

func whole(n int) *big.Rat {
	return big.NewRat(int64(n), 1)
}

// bernoulliOf returns B_n as the sum of 1/(k + 1) times the k-th difference of x^n at 0, with
// the sign of (-1)^k, over k from 0 to n.
func bernoulliOf(n int) *big.Rat {
	sum := new(big.Rat)
	for k := range n + 1 {
		part := new(big.Rat)
		for j := range k + 1 {
			x := new(big.Rat).Mul(binomial(k, j), new(big.Rat).SetInt(power(j, n)))
			if j%2 == 1 {
				x.Neg(x)
			}
			part.Add(part, x)
		}
		sum.Add(sum, part.Quo(part, whole(k+1)))
	}
	return sum
}

// evaluate returns f(x).
func evaluate(f []*big.Rat, x *big.Rat) *big.Rat {
	sum := new(big.Rat)
	for _, c := range slices.Backward(f) {
		sum.Mul(sum, x).Add(sum, c)
	}
	return sum
}

// An element is a sum of powers of a root of unity of order n: element i is the coefficient
// of the i-th power, and there are n elements, which are not unique.
type element []*big.Rat

func zero(n int) element {
	a := make(element, n)
	for i := range a {
		a[i] = new(big.Rat)
	}
	return a
}

// add adds c b to a.
func (a element) add(c *big.Rat, b element) {
	for i, x := range b {
		a[i].Add(a[i], new(big.Rat).Mul(c, x))
	}
}

// reduced returns the coordinates of a with respect to the first powers. It divides by the
// polynomial of which the powers of exp(2 pi i/n) with exponents prime to n are the roots.
func (a element) reduced() element {
	n := len(a)
	modulus := cyclotomic(n)
	m := len(modulus) - 1
	rest := zero(n)
	rest.add(whole(1), a)
	for i := n - 1; i >= m; i-- {
		c := new(big.Rat).Set(rest[i])
		for j, x := range modulus {
			rest[i-m+j].Sub(rest[i-m+j], new(big.Rat).Mul(c, whole(x)))
		}
	}
	rest = rest[:m]
	for len(rest) > 0 && rest[len(rest)-1].Sign() == 0 {
		rest = rest[:len(rest)-1]
	}
	return rest
}

// cyclotomic returns x^n - 1 divided by the cyclotomic polynomials of the other divisors.
func cyclotomic(n int) []int {
	f := make([]int, n+1)
	f[0], f[n] = -1, 1
	for d := 1; d < n; d++ {
		if n%d != 0 {
			continue
		}
		g := cyclotomic(d)
		m := len(g) - 1
		quotient := make([]int, len(f)-m)
		for i := len(quotient) - 1; i >= 0; i-- {
			quotient[i] = f[i+m]
			for j, x := range g {
				f[i+j] -= quotient[i] * x
			}
		}
		f = quotient
	}
	return f
}

// values returns the values of the primitive character of x at 0 to its modulus, as numbers
// k for the k-th power of the root of unity of order n, and -1 for 0.
func values(t *testing.T, x api.Character, n int) []int {
	t.Helper()
	x, e := dirichlet.Primitive(x)
	if e != api.OK {
		t.Fatal(x, e)
	}
	var l []int
	for a := range x.Modulus + 1 {
		v, e := dirichlet.Value(x, a)
		switch {
		case e != api.OK || !v.Zero && n%v.Den != 0:
			t.Fatal(x, a, v, e)
		case v.Zero:
			l = append(l, -1)
		default:
			l = append(l, v.Num*(n/v.Den))
		}
	}
	return l
}

// series returns B_(0, x) to B_(k, x) from their generating function: with the conductor f
// the sum of x(a) exp(a t) over a from 1 to f is (exp(f t) - 1)/t times the sum of all
// B_(j, x) t^j/j!.
func series(t *testing.T, x api.Character, k, n int) []element {
	t.Helper()
	l := values(t, x, n)
	f := len(l) - 1
	var b []element
	for m := range k + 1 {
		// The coefficients of t^m/m!.
		left := zero(n)
		for a := 1; a <= f; a++ {
			if l[a] >= 0 {
				left[l[a]].Add(left[l[a]], new(big.Rat).SetInt(power(a, m)))
			}
		}
		for j := range m {
			// m!/(j! (m - j + 1)!)
			c := new(big.Rat).Quo(binomial(m, j), whole(m-j+1))
			c.Mul(c, new(big.Rat).SetInt(power(f, m-j+1)))
			left.add(c.Neg(c), b[j])
		}
		next := zero(n)
		next.add(big.NewRat(1, int64(f)), left)
		b = append(b, next)
	}
	return b
}

// overwrite fills the whole memory of an integer.
func overwrite(a api.Int) {
	for i := range a.Mag[:cap(a.Mag)] {
		a.Mag[:cap(a.Mag)][i] = 77
	}
}

// checkMemory reports elements of a result that share memory with each other, which is
// seen by writing into them one by one.
func checkMemory(t *testing.T, l []api.Rat) {
	t.Helper()
	var ints []api.Int
	for _, x := range l {
		ints = append(ints, x.Num, x.Den)
	}
	for i, a := range ints {
		var kept [][]uint32
		for _, b := range ints[i+1:] {
			kept = append(kept, slices.Clone(b.Mag))
		}
		overwrite(a)
		for j, b := range ints[i+1:] {
			if !slices.Equal(b.Mag, kept[j]) {
				t.Fatal("shared memory", i, i+1+j)
			}
		}
	}
}
