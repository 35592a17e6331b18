package cyclotomic_test

import (
	"math"
	"math/big"
	"math/cmplx"
	"math/rand"
	"slices"
	"strings"
	"testing"

	"halfplane/api"
	"halfplane/arith"
	"halfplane/bigint"
	"halfplane/cyclotomic"
	"halfplane/factor"
	"halfplane/fpoly"
	"halfplane/numfield"
	"halfplane/rational"
	"halfplane/zpoly"
)

var minusZero = api.Int{Neg: true, Mag: []uint32{0, 0}}

// orders are the n whose fields are not too large.
func orders() []int {
	var l []int
	for n := 1; n <= 512; n++ {
		if units(n) <= 12 {
			l = append(l, n)
		}
	}
	return l
}

// units returns the number of the residues modulo n that are coprime to n.
func units(n int) int {
	count := 0
	for t := range n {
		if arith.Gcd(t, n) == 1 {
			count++
		}
	}
	return count
}

// parse returns the fractions in a text.
func parse(s string) api.Elem {
	var l api.Elem
	for _, word := range strings.Fields(s) {
		x, e := rational.Parse(word)
		if e != api.OK {
			panic(word)
		}
		l = append(l, x)
	}
	return l
}

// format returns the digits of fractions as they are, which also shows whether they are
// normalized.
func format(l []api.Rat) string {
	var b strings.Builder
	for _, x := range l {
		for _, n := range []api.Int{x.Num, x.Den} {
			if n.Neg {
				b.WriteString("-")
			}
			for _, d := range n.Mag {
				b.WriteString(big.NewInt(int64(d)).String() + ",")
			}
			b.WriteString(";")
		}
	}
	return b.String()
}

// check reports an element that is not normalized or not the one expected.
func check(t *testing.T, what string, got api.Elem, e api.Errno, want api.Elem) {
	t.Helper()
	if e != api.OK || len(got) != len(want) || format(got) != format(want) {
		t.Fatalf("%s = %v, %d, want %v", what, got, e, want)
	}
}

// value returns the complex number to which zeta_n = exp(2 pi i k / n) takes an element.
func value(n, k int, a api.Elem) complex128 {
	z := cmplx.Exp(complex(0, 2*math.Pi*float64(k)/float64(n)))
	var sum complex128
	for _, c := range slices.Backward(a) {
		x, _ := toRat(c).Float64()
		sum = sum*z + complex(x, 0)
	}
	return sum
}

// toRat reads a fraction as it is to be read, with 0 as a denominator.
func toRat(a api.Rat) *big.Rat {
	d := toInt(a.Den)
	if d.Sign() == 0 {
		return new(big.Rat)
	}
	return new(big.Rat).SetFrac(toInt(a.Num), d)
}

func toInt(a api.Int) *big.Int {
	z := new(big.Int)
	for _, d := range slices.Backward(a.Mag) {
		z.Lsh(z, 32).Or(z, big.NewInt(int64(d)))
	}
	if a.Neg {
		z.Neg(z)
	}
	return z
}

func areClose(x, y complex128) bool {
	return cmplx.Abs(x-y) < 1e-8*(1+cmplx.Abs(x))
}

// random returns an element of up to n coordinates, which is not normalized.
func random(r *rand.Rand, n int) api.Elem {
	a := make(api.Elem, r.Intn(n+1))
	for i := range a {
		a[i] = api.Rat{Num: bigint.Of(r.Intn(41) - 20), Den: bigint.Of(r.Intn(9) - 4)}
		if r.Intn(5) == 0 {
			a[i].Num = minusZero
		}
	}
	return a
}

// isNormal reports whether an element of the n-th field is normalized.
func isNormal(n int, a api.Elem) bool {
	f, _ := cyclotomic.Field(n)
	b, e := numfield.Normal(f, a)
	return e == api.OK && format(a) == format(b)
}

func TestPolynomial(t *testing.T) { // P15.1, P15.5
	polynomials := make([]api.ZPoly, 513)
	for n := 1; n <= 512; n++ {
		f, e := cyclotomic.Polynomial(n)
		if e != api.OK || len(f) != units(n)+1 {
			t.Fatal(n, f, e)
		}
		for _, c := range f {
			if m := len(c.Mag); m > 0 && c.Mag[m-1] == 0 || m == 0 && c.Neg {
				t.Fatal(n, f)
			}
		}
		polynomials[n] = f
		// The product over the divisors of n is x^n - 1, which determines f.
		product := api.ZPoly{bigint.Of(1)}
		for d := 1; d <= n; d++ {
			if n%d == 0 {
				product = zpoly.Mul(product, polynomials[d])
			}
		}
		want := make(api.ZPoly, n+1)
		want[0], want[n] = bigint.Of(-1), bigint.Of(1)
		if zpoly.Format(product) != zpoly.Format(want) {
			t.Fatal(n, f)
		}
		if n < 50 && units(n) <= 32 {
			if ok, e := factor.Irreducible(f); !ok || e != api.OK {
				t.Error(n, ok, e)
			}
		}
	}
	for n, want := range map[int]string{1: "x - 1", 2: "x + 1", 3: "x^2 + x + 1", 12: "x^4 - x^2 + 1", 16: "x^8 + 1", 30: "x^8 + x^7 - x^5 - x^4 - x^3 + x + 1"} {
		if zpoly.Format(polynomials[n]) != want {
			t.Error(n, polynomials[n])
		}
	}
	if c, _ := bigint.Small(polynomials[105][7]); c != -2 {
		t.Error(c)
	}
	for _, n := range []int{0, -1, 513, math.MaxInt, math.MinInt} {
		if f, e := cyclotomic.Polynomial(n); e != api.ErrRange || len(f) != 0 {
			t.Error(n, f, e)
		}
	}
}

func TestPatterns(t *testing.T) { // P15.5
	for n := 1; n <= 120; n++ {
		if units(n) > 40 {
			continue
		}
		f, _ := cyclotomic.Polynomial(n)
		var g api.FPoly
		for _, c := range f {
			x, _ := bigint.Small(c)
			g = append(g, x)
		}
		for _, p := range []int{2, 3, 5, 7, 31, 101} {
			if n%p == 0 {
				continue
			}
			order := 1
			for power := p % n; n > 1 && power != 1; power = power * p % n {
				order++
			}
			_, l, e := fpoly.Factor(p, g)
			if e != api.OK || len(l)*order != units(n) {
				t.Fatal(n, p, l)
			}
			for _, x := range l {
				if len(x.Poly) != order+1 || x.Exp != 1 {
					t.Fatal(n, p, l)
				}
			}
		}
	}
}

func TestField(t *testing.T) { // P15.1
	for _, n := range orders() {
		k, e := cyclotomic.Field(n)
		f, _ := cyclotomic.Polynomial(n)
		if e != api.OK || zpoly.Format(k.Modulus) != zpoly.Format(f) || numfield.Check(k) != api.OK {
			t.Error(n, k, e)
		}
	}
	if l := orders(); l[len(l)-1] != 42 || len(l) != 26 {
		t.Error(l)
	}
}

func TestRoots(t *testing.T) { // P15.2, P15.5
	for _, n := range orders() {
		f, _ := cyclotomic.Field(n)
		for k := -2 * n; k <= 2*n; k++ {
			a, e := cyclotomic.Zeta(n, k)
			if e != api.OK || !isNormal(n, a) {
				t.Fatal(n, k, a, e)
			}
			for s := range n {
				if arith.Gcd(s, n) == 1 && !areClose(value(n, s, a), cmplx.Exp(complex(0, 2*math.Pi*float64(k*s)/float64(n)))) {
					t.Fatal(n, k, s, a)
				}
			}
			if j, ok, e := cyclotomic.Root(n, a); e != api.OK || !ok || j != ((k%n)+n)%n {
				t.Fatal(n, k, j, ok, e)
			}
			// Ramanujan's sum.
			sum := 0
			for d := 1; d <= n; d++ {
				if n%d == 0 && k%d == 0 {
					mu, _ := arith.Mobius(n / d)
					sum += d * mu
				}
			}
			if trace, _ := numfield.Trace(f, a); toRat(trace).Cmp(big.NewRat(int64(sum), 1)) != 0 {
				t.Fatal(n, k, trace, sum)
			}
		}
		minus, _ := numfield.Sub(f, nil, parse("1"))
		if j, ok, e := cyclotomic.Root(n, minus); e != api.OK || ok != (n%2 == 0) || ok && j != n/2 || !ok && j != 0 {
			t.Fatal(n, j, ok, e)
		}
		for _, s := range []string{"", "0", "2", "1/2", "0 2", "1 1 1/3"} {
			if a := parse(s); !isRootOfUnity(n, a) {
				if j, ok, e := cyclotomic.Root(n, a); e != api.OK || ok || j != 0 {
					t.Fatal(n, s, j, ok, e)
				}
			}
		}
	}
}

func TestSmallRoots(t *testing.T) { // P15.2
	a, e := cyclotomic.Zeta(3, 2)
	check(t, "Zeta(3, 2)", a, e, parse("-1 -1"))
	a, e = cyclotomic.Zeta(4, -1)
	check(t, "Zeta(4, -1)", a, e, parse("0 -1"))
	a, e = cyclotomic.Zeta(1, 5)
	check(t, "Zeta(1, 5)", a, e, parse("1"))
	a, e = cyclotomic.Zeta(2, 3)
	check(t, "Zeta(2, 3)", a, e, parse("-1"))
	for _, k := range []int{math.MinInt, math.MaxInt} {
		a, e = cyclotomic.Zeta(7, k)
		b, _ := cyclotomic.Zeta(7, k%7)
		check(t, "Zeta", a, e, b)
	}
	if k, ok, e := cyclotomic.Root(3, parse("-1 -1")); e != api.OK || !ok || k != 2 {
		t.Error(k, ok, e)
	}
	if k, ok, e := cyclotomic.Root(3, parse("0 -1")); e != api.OK || ok || k != 0 {
		t.Error(k, ok, e)
	}
	// An element that is not normalized.
	if k, ok, e := cyclotomic.Root(4, append(api.Elem{{Num: minusZero, Den: bigint.Of(2)}, {}, {}, {Num: bigint.Of(-2), Den: bigint.Of(-2)}}, api.Rat{})); e != api.OK || !ok || k != 3 {
		t.Error(k, ok, e)
	}
}

// isRootOfUnity reports whether a is a power of zeta_n, by its absolute value and its
// n-th power.
func isRootOfUnity(n int, a api.Elem) bool {
	return areClose(cmplx.Pow(value(n, 1, a), complex(float64(n), 0)), 1)
}

func TestGalois(t *testing.T) { // P15.3
	r := rand.New(rand.NewSource(1))
	for _, n := range orders() {
		for s := -n - 1; s <= 2*n; s++ {
			a, b := random(r, n+5), random(r, 12)
			c, e := cyclotomic.Galois(n, s, a)
			if arith.Gcd(s, n) != 1 {
				if e != api.ErrCoprime || len(c) != 0 {
					t.Fatal(n, s, c, e)
				}
				continue
			}
			if e != api.OK || !isNormal(n, c) || !areClose(value(n, 1, c), value(n, s, a)) {
				t.Fatal(n, s, a, c, e)
			}
			// It is compatible with products, and combines with others.
			f, _ := cyclotomic.Field(n)
			product, _ := numfield.Mul(f, a, b)
			d, _ := cyclotomic.Galois(n, s, b)
			want, _ := numfield.Mul(f, c, d)
			product, e = cyclotomic.Galois(n, s, product)
			check(t, "Galois of a product", product, e, want)
			twice, e := cyclotomic.Galois(n, s, c)
			want, _ = cyclotomic.Galois(n, s*s, a)
			check(t, "Galois twice", twice, e, want)
		}
		a := random(r, n+5)
		c, e := cyclotomic.Conjugate(n, a)
		want, _ := cyclotomic.Galois(n, -1, a)
		check(t, "Conjugate", c, e, want)
		if !areClose(value(n, 1, c), cmplx.Conj(value(n, 1, a))) {
			t.Fatal(n, a, c)
		}
	}
	a, e := cyclotomic.Galois(5, 2, parse("0 1"))
	check(t, "Galois", a, e, parse("0 0 1"))
	a, e = cyclotomic.Conjugate(5, parse("0 1"))
	check(t, "Conjugate", a, e, parse("-1 -1 -1 -1"))
	a, e = cyclotomic.Galois(7, math.MinInt, parse("0 1")) // -2^63 is -1 modulo 7
	check(t, "Galois", a, e, parse("-1 -1 -1 -1 -1 -1"))
	a, e = cyclotomic.Galois(1, 0, parse("2 3"))
	check(t, "Galois", a, e, parse("5"))
	if a, e := cyclotomic.Galois(2, math.MinInt, parse("1")); e != api.ErrCoprime || len(a) != 0 {
		t.Error(a, e)
	}
}

func TestLift(t *testing.T) { // P15.4
	r := rand.New(rand.NewSource(2))
	for _, n := range orders() {
		for _, m := range orders() {
			a := random(r, n+3)
			b, e := cyclotomic.Lift(n, m, a)
			if m%n != 0 {
				if e != api.ErrMember || len(b) != 0 {
					t.Fatal(n, m, b, e)
				}
				continue
			}
			if e != api.OK || !isNormal(m, b) || !areClose(value(m, 1, b), value(n, 1, a)) {
				t.Fatal(n, m, a, b, e)
			}
		}
	}
	a, e := cyclotomic.Lift(3, 6, parse("0 1"))
	check(t, "Lift", a, e, parse("-1 1"))
	a, e = cyclotomic.Lift(1, 4, parse("1/2 1/2"))
	check(t, "Lift", a, e, parse("1"))
	a, e = cyclotomic.Lift(2, 1, nil)
	if e != api.ErrMember || len(a) != 0 {
		t.Error(a, e)
	}
}

func TestRational(t *testing.T) { // P15.4, P15.5
	r := rand.New(rand.NewSource(3))
	for _, n := range orders() {
		for i := range 20 {
			a := random(r, n+3)
			f, _ := cyclotomic.Field(n)
			if i%2 == 0 { // the trace of an element
				var sum api.Elem
				for s := range n {
					if c, e := cyclotomic.Galois(n, s, a); e == api.OK {
						sum, _ = numfield.Add(f, sum, c)
					}
				}
				if n > 1 {
					a = sum
				}
			}
			fixed := true
			normal, _ := numfield.Normal(f, a)
			for s := range n {
				if c, e := cyclotomic.Galois(n, s, a); e == api.OK && format(c) != format(normal) {
					fixed = false
				}
			}
			x, ok, e := cyclotomic.Rational(n, a)
			if e != api.OK || ok != fixed || !ok && len(x.Num.Mag)+len(x.Den.Mag) != 0 {
				t.Fatal(n, a, x, ok, e)
			}
			if ok {
				same, _ := numfield.Normal(f, api.Elem{x})
				check(t, "Rational", same, e, normal)
			}
		}
	}
	for _, c := range []struct {
		n    int
		a    api.Elem
		want string
	}{
		{8, parse("0 0 0 0 1"), "-1"}, {5, nil, "0"}, {5, parse("0 0 0"), "0"}, {1, parse("1/2 1/3"), "5/6"}, {3, parse("1 1 1"), "0"}, {2, parse("1 3"), "-2"}, {4, api.Elem{{Num: bigint.Of(4), Den: bigint.Of(-6)}, {Num: minusZero}}, "-2/3"},
	} {
		x, ok, e := cyclotomic.Rational(c.n, c.a)
		check(t, "Rational", api.Elem{x}, e, parse(c.want))
		if !ok {
			t.Error(c)
		}
	}
}

func TestErrors(t *testing.T) { // the first error of every function
	a := parse("0 1")
	for _, c := range []struct {
		n    int
		want api.Errno
	}{{0, api.ErrRange}, {-3, api.ErrRange}, {513, api.ErrRange}, {math.MaxInt, api.ErrRange}, {math.MinInt, api.ErrRange}, {512, api.ErrLarge}, {17, api.ErrLarge}, {43, api.ErrLarge}, {34, api.ErrLarge}, {15, api.OK}, {42, api.OK}} {
		if c.want == api.OK {
			if _, e := cyclotomic.Field(c.n); e != api.OK {
				t.Error(c, e)
			}
			continue
		}
		if k, e := cyclotomic.Field(c.n); e != c.want || len(k.Modulus) != 0 {
			t.Error("Field", c, k, e)
		}
		for name, do := range map[string]func() (api.Elem, api.Errno){
			"Zeta":      func() (api.Elem, api.Errno) { return cyclotomic.Zeta(c.n, 1) },
			"Galois":    func() (api.Elem, api.Errno) { return cyclotomic.Galois(c.n, 0, a) },
			"Conjugate": func() (api.Elem, api.Errno) { return cyclotomic.Conjugate(c.n, a) },
			"Lift":      func() (api.Elem, api.Errno) { return cyclotomic.Lift(c.n, 0, a) },
			"Lift, m":   func() (api.Elem, api.Errno) { return cyclotomic.Lift(5, c.n, a) },
		} {
			if b, e := do(); e != c.want || len(b) != 0 {
				t.Error(name, c, b, e)
			}
		}
		if x, ok, e := cyclotomic.Rational(c.n, a); e != c.want || ok || len(x.Num.Mag)+len(x.Den.Mag) != 0 {
			t.Error("Rational", c, x, ok, e)
		}
		if k, ok, e := cyclotomic.Root(c.n, a); e != c.want || ok || k != 0 {
			t.Error("Root", c, k, ok, e)
		}
	}
	if b, e := cyclotomic.Lift(17, 0, a); e != api.ErrLarge || len(b) != 0 {
		t.Error(b, e)
	}
	if f, e := cyclotomic.Polynomial(512); e != api.OK || len(f) != 257 {
		t.Error(f, e)
	}
}

// overwrite writes into all digits of an integer, up to the capacity.
func overwrite(a api.Int) {
	for i := range a.Mag[:cap(a.Mag)] {
		a.Mag[:cap(a.Mag)][i] = 0xDEADBEEF
	}
}

// Nothing is written into an argument, and no result shares memory with one or another.
func TestMemory(t *testing.T) { // R3
	r := rand.New(rand.NewSource(4))
	for _, n := range orders() {
		a := random(r, 12)
		one := api.Elem{rational.Of(3)}
		before := format(a) + format(one)
		var results []api.Rat
		keep := func(b api.Elem, _ api.Errno) { results = append(results, b...) }
		keep(cyclotomic.Zeta(n, 1))
		keep(cyclotomic.Galois(n, 1, a))
		keep(cyclotomic.Galois(n, 1, one))
		keep(cyclotomic.Conjugate(n, a))
		keep(cyclotomic.Lift(n, n, a))
		x, _, e := cyclotomic.Rational(n, one)
		keep(api.Elem{x}, e)
		cyclotomic.Root(n, a)
		f, _ := cyclotomic.Polynomial(n)
		k, _ := cyclotomic.Field(n)
		for _, c := range slices.Concat(f, k.Modulus) {
			results = append(results, api.Rat{Num: c})
		}
		for i := range results {
			rest := format(results[i+1:])
			den := format([]api.Rat{{Den: results[i].Den}})
			overwrite(results[i].Num)
			if format([]api.Rat{{Den: results[i].Den}}) != den {
				t.Fatal("a numerator shares memory with its denominator")
			}
			overwrite(results[i].Den)
			if format(results[i+1:]) != rest {
				t.Fatal("two results share memory", n, i)
			}
		}
		if format(a)+format(one) != before {
			t.Fatal("an argument was changed")
		}
	}
}
