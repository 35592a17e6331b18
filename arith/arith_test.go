package arith_test

import (
	"math"
	"math/big"
	"math/rand"
	"slices"
	"testing"

	"halfplane/api"
	"halfplane/arith"
	"halfplane/bigint"
)

const top = api.MaxArith

// gcd is Euclid's algorithm, for comparison.
func gcd(a, b int) int {
	return int(new(big.Int).GCD(nil, nil, big.NewInt(int64(max(a, -a))), big.NewInt(int64(max(b, -b)))).Int64())
}

func residue(a, m int) int {
	return (a%m + m) % m
}

// isPrime tries all divisors.
func isPrime(n int) bool {
	for d := 2; d*d <= n; d++ {
		if n%d == 0 {
			return false
		}
	}
	return n >= 2
}

func TestGcd(t *testing.T) { // P3.1
	for _, c := range [][3]int{{0, 0, 0}, {0, -5, 5}, {-12, 18, 6}, {math.MinInt64, 0, 0}, {0, math.MinInt64, 0}, {math.MinInt64, math.MinInt64, 0}, {math.MinInt64, 6, 2}, {48, math.MinInt64, 16}, {math.MinInt64, math.MaxInt64, 1}, {math.MinInt64, -1 << 62, 1 << 62}} {
		if g := arith.Gcd(c[0], c[1]); g != c[2] {
			t.Error(c, g)
		}
	}
	r := rand.New(rand.NewSource(1))
	for range 2000 {
		c := r.Intn(1000) + 1
		a, b := c*(r.Intn(1<<50)-1<<49), c*(r.Intn(1<<20)-1<<19)
		if g := arith.Gcd(a, b); g != gcd(a, b) {
			t.Fatal(a, b, g)
		}
	}
}

func TestXgcd(t *testing.T) { // P3.1
	for _, c := range [][5]int{{6, 4, 2, 1, -1}, {-6, 4, 2, 1, 2}, {-5, 0, 5, -1, 0}, {5, 0, 5, 1, 0}, {0, 0, 0, 0, 0}, {0, -3, 3, 0, -1}, {0, 3, 3, 0, 1}, {7, 1, 1, 0, 1}, {top, 0, top, 1, 0}, {-top, -top, top, 0, -1}} {
		if g, u, v, e := arith.Xgcd(c[0], c[1]); [4]int{g, u, v} != [4]int{c[2], c[3], c[4]} || e != api.OK {
			t.Error(c, g, u, v, e)
		}
	}
	for _, c := range [][2]int{{top + 1, 1}, {1, top + 1}, {-top - 1, 0}, {0, -top - 1}, {math.MinInt64, 5}, {5, math.MinInt64}} {
		if g, u, v, e := arith.Xgcd(c[0], c[1]); g != 0 || u != 0 || v != 0 || e != api.ErrRange {
			t.Error(c, g, u, v, e)
		}
	}
	check := func(a, b int) {
		g, u, v, e := arith.Xgcd(a, b)
		if e != api.OK || g != gcd(a, b) || u*a+v*b != g || b != 0 && (u < 0 || u >= max(b, -b)/g) {
			t.Fatal(a, b, g, u, v, e)
		}
	}
	for a := -40; a <= 40; a++ {
		for b := -40; b <= 40; b++ {
			check(a, b)
		}
	}
	r := rand.New(rand.NewSource(2))
	for range 5000 {
		check(r.Intn(2*top+1)-top, r.Intn(2*top+1)-top)
	}
	check(top, top-1)
	check(-top, top-1)
	check(1836311903, 1134903170)
}

func TestIsPrime(t *testing.T) { // P3.2
	for n := -10; n < 20000; n++ {
		if p, e := arith.IsPrime(n); p != isPrime(n) || e != api.OK {
			t.Fatal(n, p, e)
		}
	}
	for n, want := range map[int]bool{top: true, top - 2: false, 46337 * 46337: false, 46337 * 46327: false, 2147483629: true, math.MinInt64: false, 25326001: false} {
		if p, e := arith.IsPrime(n); p != want || e != api.OK {
			t.Error(n, p, e)
		}
	}
	for _, n := range []int{top + 1, math.MaxInt64} {
		if p, e := arith.IsPrime(n); p || e != api.ErrRange {
			t.Error(n, p, e)
		}
	}
}

func TestPrimes(t *testing.T) { // P3.2
	var want []int
	for n := -2; n < 1000; n++ {
		if isPrime(n) {
			want = append(want, n)
		}
		if l, e := arith.Primes(n); !slices.Equal(l, want) || e != api.OK {
			t.Fatal(n, l, e)
		}
	}
	if l, e := arith.Primes(math.MinInt64); len(l) != 0 || e != api.OK {
		t.Error(l, e)
	}
	if l, e := arith.Primes(api.MaxSieve); len(l) != 82025 || l[82024] != 1048573 || e != api.OK {
		t.Error(len(l), e)
	}
	for _, n := range []int{api.MaxSieve + 1, math.MaxInt64} {
		if l, e := arith.Primes(n); len(l) != 0 || e != api.ErrRange {
			t.Error(n, e)
		}
	}
}

func TestFactor(t *testing.T) { // P3.2
	check := func(n int) {
		l, e := arith.Factor(n)
		product, last := 1, 1
		for _, f := range l {
			if f.Prime <= last || f.Exp < 1 || !isPrime(f.Prime) {
				t.Fatal(n, l)
			}
			last = f.Prime
			for range f.Exp {
				product *= f.Prime
			}
		}
		if product != n || e != api.OK {
			t.Fatal(n, l, e)
		}
	}
	for n := 1; n < 3000; n++ {
		check(n)
	}
	for _, n := range []int{top, top - 1, 1 << 30, 46337 * 46337, 46337 * 46327, 2 * 1073741789, 1162261467} {
		check(n)
	}
	for _, n := range []int{0, -1, -6, top + 1, math.MinInt64, math.MaxInt64} {
		if l, e := arith.Factor(n); len(l) != 0 || e != api.ErrRange {
			t.Error(n, l, e)
		}
		if l, e := arith.Divisors(n); len(l) != 0 || e != api.ErrRange {
			t.Error(n, l, e)
		}
	}
}

func TestDivisors(t *testing.T) { // P3.2
	for n := 1; n < 2000; n++ {
		var want []int
		for d := 1; d <= n; d++ {
			if n%d == 0 {
				want = append(want, d)
			}
		}
		if l, e := arith.Divisors(n); !slices.Equal(l, want) || e != api.OK {
			t.Fatal(n, l, e)
		}
	}
	if l, e := arith.Divisors(1396755360); len(l) != 1536 || l[0] != 1 || l[1535] != 1396755360 || !slices.IsSorted(l) || e != api.OK {
		t.Error(len(l), e)
	}
}

// sigma returns a value of arith.Sigma, which must be a machine integer.
func sigma(t *testing.T, k, n int) int {
	t.Helper()
	s, e := arith.Sigma(k, n)
	v, ok := bigint.Small(s)
	if e != api.OK || !ok {
		t.Fatal(k, n, s, e)
	}
	return v
}

func TestFunctions(t *testing.T) { // P3.3
	for n := 1; n < 1500; n++ {
		coprime, psi, mobius := 0, n, 1
		sums := [3]int{}
		for d := 1; d <= n; d++ {
			if gcd(d, n) == 1 {
				coprime++
			}
			if n%d > 0 {
				continue
			}
			sums[0], sums[1], sums[2] = sums[0]+1, sums[1]+d, sums[2]+d*d
			if isPrime(d) {
				psi += psi / d
				mobius = -mobius
				if n%(d*d) == 0 {
					mobius = 0
				}
			}
		}
		a, e := arith.Phi(n)
		b, f := arith.Psi(n)
		c, g := arith.Mobius(n)
		if a != coprime || b != psi || c != mobius || e != api.OK || f != api.OK || g != api.OK {
			t.Fatal(n, a, b, c)
		}
		for k, s := range sums {
			if sigma(t, k, n) != s {
				t.Fatal(k, n)
			}
		}
	}
	if psi, _ := arith.Psi(2 * 3 * 5 * 7 * 11 * 13 * 17 * 19 * 23); psi != 3*4*6*8*12*14*18*20*24 {
		t.Error(psi)
	}
	if phi, _ := arith.Phi(top); phi != top-1 {
		t.Error(phi)
	}
	s, e := arith.Sigma(64, top)
	want := new(big.Int).Exp(big.NewInt(top), big.NewInt(64), nil)
	if e != api.OK || bigint.Format(s) != want.Add(want, big.NewInt(1)).String() {
		t.Error(s, e)
	}
	s, e = arith.Sigma(64, 4)
	want.Lsh(big.NewInt(1), 128)
	want.Add(want, new(big.Int).Lsh(big.NewInt(1), 64))
	if e != api.OK || bigint.Format(s) != want.Add(want, big.NewInt(1)).String() {
		t.Error(s, e)
	}
	for _, n := range []int{0, -1, top + 1, math.MinInt64, math.MaxInt64} {
		a, e := arith.Phi(n)
		b, f := arith.Psi(n)
		c, g := arith.Mobius(n)
		d, h := arith.Sigma(1, n)
		if a != 0 || b != 0 || c != 0 || d.Neg || len(d.Mag) != 0 || e != api.ErrRange || f != api.ErrRange || g != api.ErrRange || h != api.ErrRange {
			t.Error(n, a, b, c, d, e, f, g, h)
		}
	}
	for _, k := range []int{-1, 65, math.MinInt64, math.MaxInt64} {
		if d, e := arith.Sigma(k, 6); len(d.Mag) != 0 || e != api.ErrRange {
			t.Error(k, d, e)
		}
	}
}

func TestFundamental(t *testing.T) { // P3.4
	squareFree := func(n int) bool {
		for d := 2; d*d <= max(n, -n); d++ {
			if n%(d*d) == 0 {
				return false
			}
		}
		return n != 0
	}
	fundamental := func(d int) bool {
		m := residue(d, 4)
		return m == 1 && squareFree(d) || m == 0 && squareFree(d/4) && residue(d/4, 4) >= 2
	}
	for d := -2000; d <= 2000; d++ {
		disc, f, e := arith.Fundamental(d)
		switch {
		case d == 0:
			if e != api.ErrRange || disc != 0 || f != 0 {
				t.Error(d, disc, f, e)
			}
		case residue(d, 4) >= 2:
			if e != api.ErrDisc || disc != 0 || f != 0 {
				t.Error(d, disc, f, e)
			}
		case e != api.OK || f < 1 || disc*f*f != d || !fundamental(disc):
			t.Error(d, disc, f, e)
		}
	}
	for _, c := range [][3]int{{-12, -3, 2}, {20, 5, 2}, {9, 1, 3}, {1, 1, 1}, {4, 1, 2}, {-4, -4, 1}, {8, 8, 1}, {-8, -8, 1}, {12, 12, 1}, {-16, -4, 2}, {1 << 30, 1, 1 << 15}, {-1 << 29, -8, 1 << 13}, {-top, -top, 1}, {top - 2, top - 2, 1}} {
		if disc, f, e := arith.Fundamental(c[0]); disc != c[1] || f != c[2] || e != api.OK {
			t.Error(c, disc, f, e)
		}
	}
	for _, d := range []int{top + 1, top + 2, -top - 1, -top - 2, math.MinInt64, math.MaxInt64} {
		if disc, f, e := arith.Fundamental(d); disc != 0 || f != 0 || e != api.ErrRange {
			t.Error(d, disc, f, e)
		}
	}
}

// symbol is the definition of the Kronecker symbol.
func symbol(a, n int) int {
	if n == 0 {
		if a == 1 || a == -1 {
			return 1
		}
		return 0
	}
	s := 1
	if n < 0 {
		if a < 0 {
			s = -1
		}
		n = -n
	}
	for p := 2; n > 1; p++ {
		for ; n%p == 0; n /= p {
			switch {
			case p == 2 && a%2 == 0:
				s = 0
			case p == 2 && (residue(a, 8) == 3 || residue(a, 8) == 5):
				s = -s
			case p > 2:
				s *= legendre(a, p)
			}
		}
	}
	return s
}

func legendre(a, p int) int {
	a = residue(a, p)
	if a == 0 {
		return 0
	}
	for x := range p {
		if x*x%p == a {
			return 1
		}
	}
	return -1
}

func TestKronecker(t *testing.T) { // P3.5
	for a := -60; a <= 60; a++ {
		for n := -120; n <= 120; n++ {
			if k := arith.Kronecker(a, n); k != symbol(a, n) {
				t.Fatal(a, n, k)
			}
		}
	}
	r := rand.New(rand.NewSource(3))
	for range 5000 {
		a, n := int(r.Uint64()), int(r.Uint64())|1
		want := big.Jacobi(big.NewInt(int64(a)), new(big.Int).Abs(big.NewInt(int64(n))))
		if a < 0 && n < 0 {
			want = -want
		}
		if k := arith.Kronecker(a, n); k != want {
			t.Fatal(a, n, k)
		}
	}
	for _, c := range [][3]int{
		{math.MinInt64, 0, 0}, {math.MinInt64, math.MinInt64, 0}, {-1, math.MinInt64, -1}, {1, math.MinInt64, 1}, {3, math.MinInt64, -1}, {-3, math.MinInt64, 1},
		{math.MinInt64, 1, 1}, {math.MinInt64, -1, -1}, {math.MinInt64, 3, 1}, {math.MinInt64, 7, -1}, {math.MinInt64, -7, 1}, {0, 1, 1}, {0, -1, 1}, {0, 2, 0}, {1, 0, 1}, {-1, 0, 1}, {2, 0, 0}, {0, 0, 0},
	} {
		if k := arith.Kronecker(c[0], c[1]); k != c[2] {
			t.Error(c, k)
		}
	}
}

func TestInverse(t *testing.T) { // P3.6
	for m := 1; m < 60; m++ {
		for a := -130; a < 130; a++ {
			x, e := arith.Inverse(a, m)
			if gcd(a, m) != 1 {
				if x != 0 || e != api.ErrCoprime {
					t.Error(a, m, x, e)
				}
			} else if e != api.OK || x < 0 || x >= m || residue(a*x, m) != 1%m {
				t.Error(a, m, x, e)
			}
		}
	}
	for _, a := range []int{math.MinInt64, math.MaxInt64, -1, 12345678901} {
		x, e := arith.Inverse(a, top)
		if e != api.OK || residue(residue(a, top)*x, top) != 1 {
			t.Error(a, x, e)
		}
	}
	for _, m := range []int{0, -7, top + 1, math.MinInt64, math.MaxInt64} {
		x, e := arith.Inverse(0, m)
		n, f := arith.Order(0, m)
		if x != 0 || n != 0 || e != api.ErrRange || f != api.ErrRange {
			t.Error(m, x, e, n, f)
		}
	}
}

func TestPowMod(t *testing.T) { // P3.6
	r := rand.New(rand.NewSource(4))
	for range 2000 {
		a, n, m := int(r.Uint64()), r.Intn(math.MaxInt64), r.Intn(top)+1
		x := new(big.Int).Mod(big.NewInt(int64(a)), big.NewInt(int64(m)))
		want := int(x.Exp(x, big.NewInt(int64(n)), big.NewInt(int64(m))).Int64())
		if p, e := arith.PowMod(a, n, m); p != want || e != api.OK {
			t.Fatal(a, n, m, p, e)
		}
	}
	for _, c := range [][4]int{{0, 0, 5, 1}, {0, 0, 1, 0}, {7, 0, 1, 0}, {-2, 3, 7, 6}, {top - 1, 2, top, 1}, {math.MinInt64, 1, 7, 6}, {2, math.MaxInt64, 3, 2}} {
		if p, e := arith.PowMod(c[0], c[1], c[2]); p != c[3] || e != api.OK {
			t.Error(c, p, e)
		}
	}
	for _, c := range [][3]int{{2, -1, 5}, {2, 3, 0}, {2, 3, -5}, {2, 3, top + 1}, {2, math.MinInt64, 5}} {
		if p, e := arith.PowMod(c[0], c[1], c[2]); p != 0 || e != api.ErrRange {
			t.Error(c, p, e)
		}
	}
}

func TestOrder(t *testing.T) { // P3.6
	for m := 1; m < 120; m++ {
		for a := -m; a <= 2*m; a++ {
			n, e := arith.Order(a, m)
			if gcd(a, m) != 1 {
				if n != 0 || e != api.ErrCoprime {
					t.Error(a, m, n, e)
				}
				continue
			}
			want := 1
			for x := residue(a, m); x != 1%m; x = residue(x*a, m) {
				want++
			}
			if n != want || e != api.OK {
				t.Error(a, m, n, e)
			}
		}
	}
	if n, e := arith.Order(2, top); n != 31 || e != api.OK {
		t.Error(n, e)
	}
	if n, e := arith.Order(7, top); n != top-1 || e != api.OK {
		t.Error(n, e)
	}
}

func TestCrt(t *testing.T) { // P3.7
	type c = api.Congruence
	for _, test := range []struct {
		l    [][2]int
		want c
		e    api.Errno
	}{
		{nil, c{R: 0, M: 1}, api.OK},
		{[][2]int{{2, 4}, {4, 6}}, c{R: 10, M: 12}, api.OK},
		{[][2]int{{-1, 5}}, c{R: 4, M: 5}, api.OK},
		{[][2]int{{17, 5}, {-8, 5}}, c{R: 2, M: 5}, api.OK},
		{[][2]int{{math.MinInt64, top}, {math.MaxInt64, 1}}, c{R: top - 2, M: top}, api.OK},
		{[][2]int{{1, 2}, {2, 3}, {3, 5}, {4, 7}}, c{R: 53, M: 210}, api.OK},
		{[][2]int{{5, 46341}, {4, 46340}}, c{R: 2147395604, M: 2147441940}, api.OK},
		{[][2]int{{1, 4}, {4, 6}}, c{}, api.ErrDiffer},
		{[][2]int{{1, 0}}, c{}, api.ErrRange},
		{[][2]int{{1, -4}}, c{}, api.ErrRange},
		{[][2]int{{1, top + 1}}, c{}, api.ErrRange},
		{[][2]int{{1, 65537}, {4, 65521}}, c{}, api.ErrLarge},
		{[][2]int{{1, 65537}, {4, 65521}, {0, 0}}, c{}, api.ErrLarge},
		{[][2]int{{1, 4}, {0, 4}, {0, 0}}, c{}, api.ErrDiffer},
		{[][2]int{{0, 0}, {1, 4}, {0, 4}}, c{}, api.ErrRange},
		{[][2]int{{1, 2 * 65537}, {4, 2 * 65521}}, c{}, api.ErrDiffer},
		{[][2]int{{1, top}, {1, top - 1}}, c{}, api.ErrLarge},
		{[][2]int{{1, top}, {1, top}}, c{R: 1, M: top}, api.OK},
	} {
		var l []c
		for _, x := range test.l {
			l = append(l, c{R: x[0], M: x[1]})
		}
		if got, e := arith.Crt(l); got != test.want || e != test.e {
			t.Error(test, got, e)
		}
	}
	r := rand.New(rand.NewSource(5))
	for range 3000 {
		l := make([]c, 1+r.Intn(4))
		for i := range l {
			l[i] = c{R: r.Intn(60) - 30, M: 1 + r.Intn(20)}
		}
		lcm := 1
		for _, x := range l {
			lcm = lcm / gcd(lcm, x.M) * x.M
		}
		want, e := c{}, api.ErrDiffer
		for x := range lcm {
			if !slices.ContainsFunc(l, func(y c) bool { return residue(x-y.R, y.M) != 0 }) {
				want, e = c{R: x, M: lcm}, api.OK
				break
			}
		}
		if got, f := arith.Crt(l); got != want || f != e {
			t.Fatal(l, got, f, want, e)
		}
	}
}

func TestPrimitiveRoot(t *testing.T) { // P3.8
	for p := 2; p < 1000; p++ {
		g, e := arith.PrimitiveRoot(p)
		if !isPrime(p) {
			if g != 0 || e != api.ErrPrime {
				t.Error(p, g, e)
			}
			continue
		}
		want := 1
		for {
			if n, _ := arith.Order(want, p); n == p-1 {
				break
			}
			want++
		}
		if g != want || e != api.OK {
			t.Error(p, g, e)
		}
	}
	if g, e := arith.PrimitiveRoot(top); g != 7 || e != api.OK {
		t.Error(g, e)
	}
	for _, p := range []int{1, 0, -5, top + 1, math.MaxInt64, math.MinInt64} {
		g, e := arith.PrimitiveRoot(p)
		x, ok, f := arith.SqrtMod(1, p)
		if g != 0 || e != api.ErrRange || x != 0 || ok || f != api.ErrRange {
			t.Error(p, g, e, x, ok, f)
		}
	}
}

func TestSqrtMod(t *testing.T) { // P3.8
	for p := 2; p < 300; p++ {
		for a := -p; a < 2*p; a++ {
			x, ok, e := arith.SqrtMod(a, p)
			if !isPrime(p) {
				if x != 0 || ok || e != api.ErrPrime {
					t.Error(a, p, x, ok, e)
				}
				continue
			}
			want := 0
			for want < p && residue(want*want-a, p) != 0 {
				want++
			}
			if e != api.OK || ok != (want < p) || ok && x != want || !ok && x != 0 {
				t.Error(a, p, x, ok, e)
			}
		}
	}
	r := rand.New(rand.NewSource(6))
	for _, p := range []int{top, 2013265921, 469762049, 2147483629, 65537} {
		for range 200 {
			x := r.Intn(p)
			if y, ok, e := arith.SqrtMod(x*x%p, p); y != min(x, residue(-x, p)) || !ok || e != api.OK {
				t.Fatal(x, p, y, ok, e)
			}
		}
	}
	if x, ok, e := arith.SqrtMod(math.MinInt64, 7); x != 0 || ok || e != api.OK {
		t.Error(x, ok, e)
	}
}

func TestConsequences(t *testing.T) { // P3.9
	for n := 1; n < 400; n++ {
		divisors, _ := arith.Divisors(n)
		phi, mobius := 0, 0
		for _, d := range divisors {
			a, _ := arith.Phi(d)
			b, _ := arith.Mobius(d)
			phi, mobius = phi+a, mobius+b
		}
		if phi != n || n > 1 && mobius != 0 {
			t.Error(n, phi, mobius)
		}
	}
	for a := 1; a < 60; a++ {
		for b := 1; b < 60; b++ {
			if gcd(a, b) == 1 {
				checkMultiplicative(t, a, b)
			}
		}
	}
	for a := -24; a <= 24; a++ {
		for b := -24; b <= 24; b++ {
			for c := -24; c <= 24; c++ {
				if b != 0 && c != 0 && arith.Kronecker(a, b*c) != arith.Kronecker(a, b)*arith.Kronecker(a, c) {
					t.Error("in n", a, b, c)
				}
				if (a != 0 && b != 0 || c > 0) && arith.Kronecker(a*b, c) != arith.Kronecker(a, c)*arith.Kronecker(b, c) {
					t.Error("in a", a, b, c)
				}
			}
		}
	}
	for d := -60; d <= 60; d++ {
		if disc, f, e := arith.Fundamental(d); e == api.OK && f == 1 {
			for n := 1; n < 200; n++ {
				if arith.Kronecker(disc, n) != arith.Kronecker(disc, n+max(d, -d)) {
					t.Error(d, n)
				}
			}
		}
	}
}

func checkMultiplicative(t *testing.T, a, b int) {
	t.Helper()
	for name, f := range map[string]func(int) (int, api.Errno){"Phi": arith.Phi, "Psi": arith.Psi, "Mobius": arith.Mobius} {
		x, _ := f(a)
		y, _ := f(b)
		if z, _ := f(a * b); z != x*y {
			t.Error(name, a, b)
		}
	}
	if sigma(t, 3, a)*sigma(t, 3, b) != sigma(t, 3, a*b) {
		t.Error("Sigma", a, b)
	}
	want := 1
	if a%4 == 3 && b%4 == 3 {
		want = -1
	}
	if a%2 == 1 && b%2 == 1 && arith.Kronecker(a, b)*arith.Kronecker(b, a) != want {
		t.Error("reciprocity", a, b)
	}
}
