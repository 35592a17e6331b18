package fpoly_test

import (
	"math"
	"math/rand"
	"slices"
	"testing"

	"halfplane/api"
	"halfplane/bigint"
	"halfplane/fpoly"
)

type poly = api.FPoly

// normal reads a polynomial by the document's definition.
func normal(p int, f poly) poly {
	var z poly
	for _, c := range f {
		z = append(z, (c%p+p)%p)
	}
	for len(z) > 0 && z[len(z)-1] == 0 {
		z = z[:len(z)-1]
	}
	return z
}

// add returns f + c * g.
func add(p int, f, g poly, c int) poly {
	z := make(poly, max(len(f), len(g)))
	copy(z, normal(p, f))
	for i, b := range normal(p, g) {
		z[i] += c * b
	}
	return normal(p, z)
}

func mul(p int, f, g poly) poly {
	var z poly
	for i, a := range normal(p, f) {
		shifted := append(make(poly, i), normal(p, g)...)
		z = add(p, z, shifted, a)
	}
	return normal(p, z)
}

// divMod divides by long division with the inverse found by trying.
func divMod(p int, f, g poly) (q, r poly) {
	f, g = normal(p, f), normal(p, g)
	inverse := 1
	for inverse*g[len(g)-1]%p != 1 {
		inverse++
	}
	for len(f) >= len(g) {
		c := f[len(f)-1] * inverse % p
		shift := append(make(poly, len(f)-len(g)), c)
		q = add(p, q, shift, 1)
		f = add(p, f, mul(p, g, shift), -1)
	}
	return q, f
}

func degree(f poly) int {
	return len(f) - 1
}

// random returns a polynomial with up to n coefficients, which need not be residues.
func random(r *rand.Rand, p, n int) poly {
	f := make(poly, r.Intn(n+1))
	for i := range f {
		switch r.Intn(8) {
		case 0:
			f[i] = 0
		case 1:
			f[i] = -p * r.Intn(3)
		case 2:
			f[i] = int(r.Uint64())
		default:
			f[i] = r.Intn(4*p) - 2*p
		}
	}
	return f
}

// monics returns the monic polynomials of degree n in their order.
func monics(p, n int) []poly {
	l := []poly{{}}
	for range n {
		var longer []poly
		for _, f := range l {
			for c := range p {
				longer = append(longer, append(poly{c}, f...))
			}
		}
		l = longer
	}
	for i := range l {
		l[i] = append(l[i], 1)
	}
	return l
}

// irreducible tries all monic divisors.
func irreducible(p int, f poly) bool {
	for n := 1; 2*n <= degree(f); n++ {
		for _, g := range monics(p, n) {
			if _, r := divMod(p, f, g); len(r) == 0 {
				return false
			}
		}
	}
	return degree(f) >= 1
}

var primes = []int{2, 3, 5, 7, 13, 101, 257, 65519, 65521}

func TestPrimes(t *testing.T) { // the first sentence of the promises
	f, g, n := poly{1, 2}, poly{}, bigint.Of(-1)
	for _, p := range []int{math.MinInt64, -3, 0, 1, 4, 91, 65520, 65523, 65537, api.MaxArith, api.MaxArith + 1, math.MaxInt64} {
		codes := make([]api.Errno, 15)
		results := make([]poly, 12)
		results[0], codes[0] = fpoly.Normal(p, f)
		results[1], codes[1] = fpoly.Add(p, f, g)
		results[2], codes[2] = fpoly.Sub(p, f, g)
		results[3], codes[3] = fpoly.Mul(p, f, g)
		results[4], results[5], codes[4] = fpoly.DivMod(p, f, g)
		results[6], codes[5] = fpoly.Gcd(p, f, g)
		results[7], results[8], results[9], codes[6] = fpoly.Xgcd(p, f, g)
		results[10], codes[7] = fpoly.PowMod(p, f, n, g)
		x, e := fpoly.Eval(p, f, 1)
		codes[8] = e
		results[11], codes[9] = fpoly.Derivative(p, f)
		roots, e := fpoly.Roots(p, g)
		codes[10] = e
		is, e := fpoly.Irreducible(p, g)
		codes[11] = e
		lead, l, e := fpoly.Factor(p, g)
		codes[12] = e
		first, e := fpoly.First(p, 0)
		codes[13] = e
		count, e := fpoly.Count(p, 0)
		codes[14] = e
		for i, e := range codes {
			if e != api.ErrPrime {
				t.Error(p, i, e)
			}
		}
		for i, f := range results {
			if len(f) > 0 {
				t.Error(p, i, f)
			}
		}
		if x != 0 || len(roots) > 0 || is || lead != 0 || len(l) > 0 || len(first) > 0 || len(count.Mag) > 0 || count.Neg {
			t.Error(p, x, roots, is, lead, l, first, count)
		}
	}
}

func TestRing(t *testing.T) { // P4.1
	r := rand.New(rand.NewSource(1))
	for i := range 3000 {
		p := primes[i%len(primes)]
		f, g, x := random(r, p, 9), random(r, p, 9), int(r.Uint64())
		if i%5 == 0 {
			g = add(p, nil, f, p-1)
		}
		for name, c := range map[string]struct {
			call func(int, poly, poly) (poly, api.Errno)
			want poly
		}{
			"Add": {fpoly.Add, add(p, f, g, 1)}, "Sub": {fpoly.Sub, add(p, f, g, -1)}, "Mul": {fpoly.Mul, mul(p, f, g)},
		} {
			if h, e := c.call(p, f, g); !slices.Equal(h, c.want) || e != api.OK {
				t.Fatal(name, p, f, g, h, e)
			}
		}
		if h, e := fpoly.Normal(p, f); !slices.Equal(h, normal(p, f)) || e != api.OK {
			t.Fatal(p, f, h, e)
		}
		var slope poly
		value, power := 0, 1
		for j, c := range normal(p, f) {
			if j > 0 {
				slope = append(slope, j*c)
			}
			value = (value + c*power) % p
			power = power * ((x%p + p) % p) % p
		}
		if h, e := fpoly.Derivative(p, f); !slices.Equal(h, normal(p, slope)) || e != api.OK {
			t.Fatal(p, f, h, e)
		}
		if y, e := fpoly.Eval(p, f, x); y != value || e != api.OK {
			t.Fatal(p, f, x, y, e)
		}
	}
	for _, f := range []poly{nil, {0, 0}, {65521, -65521}} {
		h, _ := fpoly.Derivative(65521, f)
		y, _ := fpoly.Eval(65521, f, 3)
		square, _ := fpoly.Mul(65521, f, f)
		if len(h) > 0 || y != 0 || len(square) > 0 {
			t.Error(f, h, y, square)
		}
	}
	if y, e := fpoly.Eval(7, poly{math.MinInt64, math.MaxInt64, 3}, math.MinInt64); y != 2 || e != api.OK {
		t.Error(y, e) // -2^63, 2^63 - 1 and -2^63 are 6 and 0 modulo 7: 6 + 0 + 3 * 36
	}
	long := slices.Repeat(poly{65520}, 3000)
	h, e := fpoly.Mul(65521, long, long)
	if e != api.OK || len(h) != 5999 || h[2999] != 3000 || h[0] != 1 || h[5000] != 999 {
		t.Error("long", len(h), e)
	}
}

func TestDivision(t *testing.T) { // P4.2
	r := rand.New(rand.NewSource(2))
	for i := range 3000 {
		p := primes[i%len(primes)]
		f, g := random(r, p, 12), random(r, p, 7)
		q, rest, e := fpoly.DivMod(p, f, g)
		if len(normal(p, g)) == 0 {
			if len(q) > 0 || len(rest) > 0 || e != api.ErrZero {
				t.Fatal(p, f, g, q, rest, e)
			}
			continue
		}
		wantQ, wantR := divMod(p, f, g)
		if !slices.Equal(q, wantQ) || !slices.Equal(rest, wantR) || e != api.OK {
			t.Fatal(p, f, g, q, rest, e)
		}
	}
	long := slices.Repeat(poly{65520, 65519, 1}, 2000)
	g := slices.Repeat(poly{65520}, 500)
	q, rest, e := fpoly.DivMod(65521, long, g)
	product, _ := fpoly.Mul(65521, q, g)
	sum, _ := fpoly.Add(65521, product, rest)
	if e != api.OK || !slices.Equal(sum, long) || len(rest) >= 500 {
		t.Error("long", e)
	}
}

func TestDivisors(t *testing.T) { // P4.3
	r := rand.New(rand.NewSource(3))
	for i := range 4000 {
		p := primes[i%len(primes)]
		common := random(r, p, 4)
		f, g := mul(p, random(r, p, 5), common), mul(p, random(r, p, 5), common)
		if i%7 == 0 {
			f = mul(p, g, random(r, p, 3))
		}
		checkDivisor(t, p, f, g)
	}
	for _, c := range []struct {
		p             int
		f, g, d, u, v poly
	}{
		{5, poly{-1, 0, 1}, poly{-1, 1}, poly{4, 1}, nil, poly{1}},
		{7, nil, nil, nil, nil, nil},
		{7, poly{3}, nil, poly{1}, poly{5}, nil},
		{7, poly{1, 2}, poly{0, 7}, poly{4, 1}, poly{4}, nil},
		{7, nil, poly{2}, poly{1}, nil, poly{4}},
		{7, poly{3}, poly{2}, poly{1}, nil, poly{4}},
		{7, poly{3}, poly{0, 1}, poly{1}, poly{5}, nil},
		{2, poly{1, 1}, poly{1, 1, 1}, poly{1}, poly{0, 1}, poly{1}},
	} {
		d, u, v, e := fpoly.Xgcd(c.p, c.f, c.g)
		if !slices.Equal(d, c.d) || !slices.Equal(u, c.u) || !slices.Equal(v, c.v) || e != api.OK {
			t.Error(c, d, u, v, e)
		}
	}
}

func checkDivisor(t *testing.T, p int, f, g poly) {
	t.Helper()
	d, u, v, e := fpoly.Xgcd(p, f, g)
	h, e2 := fpoly.Gcd(p, f, g)
	if e != api.OK || e2 != api.OK || !slices.Equal(d, h) {
		t.Fatal(p, f, g, d, h, e, e2)
	}
	f, g = normal(p, f), normal(p, g)
	if len(f)+len(g) == 0 {
		if len(d)+len(u)+len(v) > 0 {
			t.Fatal(p, d, u, v)
		}
		return
	}
	if d[degree(d)] != 1 || !slices.Equal(add(p, mul(p, u, f), mul(p, v, g), 1), d) {
		t.Fatal(p, f, g, d, u, v)
	}
	_, a := divMod(p, f, d)
	_, b := divMod(p, g, d)
	if len(a)+len(b) > 0 || !slices.Equal(u, normal(p, u)) || !slices.Equal(v, normal(p, v)) {
		t.Fatal(p, f, g, d, u, v)
	}
	switch limit := degree(g) - degree(d); {
	case len(g) == 0:
		if len(v) > 0 || len(u) != 1 {
			t.Fatal(p, f, g, u, v)
		}
	case degree(u) >= max(limit, 0):
		t.Fatal(p, f, g, d, u, v)
	}
}

func TestPowMod(t *testing.T) { // P4.4
	r := rand.New(rand.NewSource(4))
	for i := range 800 {
		p := primes[i%len(primes)]
		f, m, n := random(r, p, 5), random(r, p, 5), r.Intn(40)-4
		h, e := fpoly.PowMod(p, f, bigint.Of(n), m)
		switch {
		case len(normal(p, m)) == 0:
			if len(h) > 0 || e != api.ErrZero {
				t.Fatal(p, f, n, m, h, e)
			}
		case n < 0:
			if len(h) > 0 || e != api.ErrRange {
				t.Fatal(p, f, n, m, h, e)
			}
		default:
			_, want := divMod(p, poly{1}, m)
			for range n {
				_, want = divMod(p, mul(p, want, f), m)
			}
			if !slices.Equal(h, want) || e != api.OK {
				t.Fatal(p, f, n, m, h, e)
			}
		}
	}
	n, _ := bigint.Pow(bigint.Of(65521), 12)
	m, _ := fpoly.First(65521, 12)
	if h, e := fpoly.PowMod(65521, poly{0, 1}, n, m); !slices.Equal(h, poly{0, 1}) || e != api.OK {
		t.Error(h, e)
	}
	zero := api.Int{Neg: true, Mag: []uint32{0}}
	if h, e := fpoly.PowMod(5, nil, zero, poly{0, 1}); !slices.Equal(h, poly{1}) || e != api.OK {
		t.Error(h, e)
	}
	if h, e := fpoly.PowMod(5, poly{0, 1}, api.Int{Mag: []uint32{25, 0, 0}}, poly{2, 0, 1}); !slices.Equal(h, poly{0, 1}) || e != api.OK {
		t.Error(h, e)
	}
	if h, e := fpoly.PowMod(5, poly{3}, zero, poly{2}); len(h) > 0 || e != api.OK {
		t.Error(h, e)
	}
}

// checkFactors compares a factorization with f.
func checkFactors(t *testing.T, p int, f poly) []api.FFactor {
	t.Helper()
	lead, l, e := fpoly.Factor(p, f)
	product := poly{lead}
	for i, a := range l {
		if a.Exp < 1 || degree(a.Poly) < 1 || a.Poly[degree(a.Poly)] != 1 || i > 0 && !precedes(l[i-1].Poly, a.Poly) {
			t.Fatal(p, f, l)
		}
		if is, e := fpoly.Irreducible(p, a.Poly); !is || e != api.OK {
			t.Fatal(p, f, l)
		}
		for range a.Exp {
			product = mul(p, product, a.Poly)
		}
	}
	if e != api.OK || !slices.Equal(product, normal(p, f)) {
		t.Fatal(p, f, lead, l, e)
	}
	return l
}

func precedes(f, g poly) bool {
	if len(f) != len(g) {
		return len(f) < len(g)
	}
	for i := len(f) - 1; i >= 0; i-- {
		if f[i] != g[i] {
			return f[i] < g[i]
		}
	}
	return false
}

func TestSmallFactors(t *testing.T) { // P4.5
	for p, n := range map[int]int{2: 9, 3: 6, 5: 4, 7: 3} {
		for d := range n + 1 {
			for _, f := range monics(p, d) {
				l := checkFactors(t, p, f)
				is, e := fpoly.Irreducible(p, f)
				if is != irreducible(p, f) || e != api.OK || is != (len(l) == 1 && l[0].Exp == 1) {
					t.Fatal(p, f, is, e)
				}
				var want []int
				for x := range p {
					if y, _ := fpoly.Eval(p, f, x); y == 0 {
						want = append(want, x)
					}
				}
				if roots, e := fpoly.Roots(p, f); !slices.Equal(roots, want) || e != api.OK {
					t.Fatal(p, f, roots, e)
				}
			}
		}
	}
}

func TestFactorProducts(t *testing.T) { // P4.5, P4.7
	r := rand.New(rand.NewSource(5))
	for i := range 400 {
		p := primes[i%len(primes)]
		f := poly{r.Intn(p-1) + 1}
		want := map[string]int{}
		for degree(f) < 24 {
			n := 1 + r.Intn(4)
			g := append(random(r, p, n), 1)
			if is, _ := fpoly.Irreducible(p, g); !is {
				continue
			}
			exp := 1 + r.Intn(max(4, min(p, 6)))
			for range exp {
				f = mul(p, f, g)
			}
			want[key(normal(p, g))] += exp
		}
		lead := f[degree(f)]
		if degree(f) > api.MaxDegree {
			continue
		}
		l := checkFactors(t, p, f)
		if a, _, _ := fpoly.Factor(p, f); a != lead || len(l) != len(want) {
			t.Fatal(p, f, a, l)
		}
		for _, a := range l {
			if want[key(a.Poly)] != a.Exp {
				t.Fatal(p, f, l, want)
			}
		}
	}
}

func key(f poly) string {
	s := ""
	for _, c := range f {
		s += string(rune(c)) + ","
	}
	return s
}

func TestGreatFactors(t *testing.T) { // P4.5, P1
	r := rand.New(rand.NewSource(6))
	for _, p := range primes {
		f := make(poly, 65)
		for i := range f {
			f[i] = r.Intn(p)
		}
		f[64] = p - 1
		checkFactors(t, p, f)
		// All residues, or as many of them as the degree admits, are roots.
		all := poly{1}
		var want []int
		for x := range min(p, 64) {
			all = mul(p, all, poly{-x, 1})
			want = append(want, x)
		}
		if roots, e := fpoly.Roots(p, all); !slices.Equal(roots, want) || e != api.OK {
			t.Error(p, roots, e)
		}
		if l := checkFactors(t, p, all); len(l) != len(want) {
			t.Error(p, l)
		}
		power := make(poly, 65)
		power[64] = 1
		if l := checkFactors(t, p, power); len(l) != 1 || l[0].Exp != 64 {
			t.Error(p, l)
		}
		checkFactors(t, p, add(p, power, poly{p - 1}, 1))
		checkFactors(t, p, add(p, power, poly{1, 1}, 1))
	}
	// Pairs of factors of the same degree.
	for _, p := range []int{2, 3, 65521} {
		for n := 2; n <= 12; n++ {
			f, _ := fpoly.First(p, n)
			g := f
			for is := false; !is || slices.Equal(f, g); is, _ = fpoly.Irreducible(p, g) {
				g = append(random(r, p, n), make(poly, n)...)[:n]
				g = append(g, 1)
			}
			if p == 2 && n == 2 {
				break
			}
			checkFactors(t, p, mul(p, f, g))
		}
	}
}

func TestFactorErrors(t *testing.T) { // P4.5
	for _, c := range []struct {
		p int
		f poly
		e api.Errno
	}{
		{3, nil, api.ErrZero}, {3, poly{3, 0, 6}, api.ErrZero}, {3, make(poly, 100), api.ErrZero},
		{3, append(make(poly, 65), 1), api.ErrLarge}, {3, append(make(poly, 65), 2, 3), api.ErrLarge},
	} {
		roots, e := fpoly.Roots(c.p, c.f)
		is, e2 := fpoly.Irreducible(c.p, c.f)
		lead, l, e3 := fpoly.Factor(c.p, c.f)
		if e != c.e || e2 != c.e || e3 != c.e || len(roots) > 0 || is || lead != 0 || len(l) > 0 {
			t.Error(c, roots, e, is, e2, lead, l, e3)
		}
	}
	// Coefficients that are 0 modulo p do not count for the degree.
	f := append(make(poly, 64), 1, 3, 6)
	if l := checkFactors(t, 3, f); len(l) != 1 || l[0].Exp != 64 {
		t.Error(l)
	}
	for _, f := range []poly{{3}, {-4}, {3, 7}} {
		roots, e := fpoly.Roots(7, f)
		is, e2 := fpoly.Irreducible(7, f)
		lead, l, e3 := fpoly.Factor(7, f)
		if e != api.OK || e2 != api.OK || e3 != api.OK || len(roots) > 0 || is || lead != 3 || len(l) > 0 {
			t.Error(roots, is, lead, l)
		}
	}
	if is, e := fpoly.Irreducible(7, poly{3, 2}); !is || e != api.OK {
		t.Error(is, e)
	}
}

func TestFirst(t *testing.T) { // P4.6
	for p, n := range map[int]int{2: 10, 3: 6, 5: 4, 7: 4, 11: 3, 23: 2} {
		for d := 1; d <= n; d++ {
			l := monics(p, d)
			want := l[slices.IndexFunc(l, func(f poly) bool { return irreducible(p, f) })]
			if f, e := fpoly.First(p, d); !slices.Equal(f, want) || e != api.OK {
				t.Error(p, d, f, want, e)
			}
		}
	}
	for _, p := range primes {
		for n := 1; n <= 12; n++ {
			f, e := fpoly.First(p, n)
			if is, _ := fpoly.Irreducible(p, f); !is || degree(f) != n || f[n] != 1 || e != api.OK {
				t.Error(p, n, f, e)
			}
		}
		for _, n := range []int{math.MinInt64, -1, 0, 13, math.MaxInt64} {
			if f, e := fpoly.First(p, n); len(f) > 0 || e != api.ErrRange {
				t.Error(p, n, f, e)
			}
		}
	}
}

// TestFirstBinomials looks at the binomials themselves where First passes them over.
func TestFirstBinomials(t *testing.T) { // P4.6
	for _, p := range []int{2, 3, 5, 7, 11, 13, 17, 19, 31, 37} {
		for n := 2; n <= 12; n++ {
			f := append(make(poly, n), 1)
			want := 0
			for c := 1; c < p && want == 0; c++ {
				f[0] = c
				if is, _ := fpoly.Irreducible(p, f); is {
					want = c
				}
			}
			f, _ = fpoly.First(p, n)
			if binomial := !slices.ContainsFunc(f[1:n], func(c int) bool { return c != 0 }); binomial != (want > 0) || binomial && f[0] != want {
				t.Error(p, n, f, want)
			}
		}
	}
}

func TestCount(t *testing.T) { // P4.6
	for p, n := range map[int]int{2: 9, 3: 5, 5: 4, 7: 3} {
		for d := 1; d <= n; d++ {
			want := 0
			for _, f := range monics(p, d) {
				if irreducible(p, f) {
					want++
				}
			}
			count, e := fpoly.Count(p, d)
			if c, ok := bigint.Small(count); c != want || !ok || e != api.OK {
				t.Error(p, d, count, e)
			}
		}
	}
	for _, p := range primes {
		for n := 1; n <= 64; n++ {
			// The sum of d * Count(p, d) over the divisors d of n is p^n.
			var sum api.Int
			for d := 1; d <= n; d++ {
				if n%d == 0 {
					count, e := fpoly.Count(p, d)
					if e != api.OK {
						t.Fatal(p, d, e)
					}
					sum = bigint.Add(sum, bigint.Mul(bigint.Of(d), count))
				}
			}
			if power, _ := bigint.Pow(bigint.Of(p), n); bigint.Cmp(sum, power) != 0 {
				t.Error(p, n)
			}
		}
		for _, n := range []int{math.MinInt64, -1, 0, 65, math.MaxInt64} {
			if count, e := fpoly.Count(p, n); len(count.Mag) > 0 || count.Neg || e != api.ErrRange {
				t.Error(p, n, count, e)
			}
		}
	}
}

func TestConsequences(t *testing.T) { // P4.7
	for p, n := range map[int]int{2: 6, 3: 3, 5: 2, 7: 2} {
		for d := 1; d <= n; d++ {
			size := 1
			for range d {
				size *= p
			}
			f := make(poly, size+1)
			f[size], f[1] = 1, p-1
			total := 0
			for _, a := range checkFactors(t, p, f) {
				if a.Exp != 1 || d%degree(a.Poly) != 0 {
					t.Error(p, d, a)
				}
				total += degree(a.Poly)
			}
			if total != size {
				t.Error(p, d, total)
			}
		}
	}
}

// TestMemory changes every result and looks whether an argument, or another result, changes with it.
func TestMemory(t *testing.T) { // R3, R4
	const p = 7
	calls := map[string]func(f, g poly) []poly{
		"Normal": func(f, g poly) []poly { h, _ := fpoly.Normal(p, f); return []poly{h} },
		"Add":    func(f, g poly) []poly { h, _ := fpoly.Add(p, f, g); return []poly{h} },
		"Sub":    func(f, g poly) []poly { h, _ := fpoly.Sub(p, f, g); return []poly{h} },
		"Mul":    func(f, g poly) []poly { h, _ := fpoly.Mul(p, f, g); return []poly{h} },
		"DivMod": func(f, g poly) []poly { q, r, _ := fpoly.DivMod(p, f, g); return []poly{q, r} },
		"Gcd":    func(f, g poly) []poly { h, _ := fpoly.Gcd(p, f, g); return []poly{h} },
		"Xgcd":   func(f, g poly) []poly { d, u, v, _ := fpoly.Xgcd(p, f, g); return []poly{d, u, v} },
		"PowMod": func(f, g poly) []poly { h, _ := fpoly.PowMod(p, f, bigint.Of(1), g); return []poly{h} },
		"Derivative": func(f, g poly) []poly {
			h, _ := fpoly.Derivative(p, f)
			return []poly{h}
		},
		"Roots": func(f, g poly) []poly { l, _ := fpoly.Roots(p, f); return []poly{l} },
		"Factor": func(f, g poly) []poly {
			_, l, _ := fpoly.Factor(p, f)
			var all []poly
			for _, a := range l {
				all = append(all, a.Poly)
			}
			return all
		},
		"First": func(f, g poly) []poly { h, _ := fpoly.First(p, 3); return []poly{h} },
	}
	arguments := []poly{nil, {1}, {3}, {0, 1}, {-1, 0, 1}, {5, 4, 3, 1, 0}, {0, -6, 11, -6, 1}, {1, 0, 1, 0, 0, 0, 0, 7}, {0, 0, 0, 0, 0, 0, 0, 1}}
	for name, call := range calls {
		for _, x := range arguments {
			for _, y := range arguments {
				f, g := slices.Clone(x), slices.Clone(y)
				got, want := call(f, g), call(x, y)
				for i := range got {
					if !slices.Equal(got[i], want[i]) {
						t.Fatal(name, x, y, "results share memory")
					}
					whole := got[i][:cap(got[i])]
					for j := range whole {
						whole[j] = -99
					}
				}
				if !slices.Equal(f, x) || !slices.Equal(g, y) || !slices.EqualFunc(call(x, y), want, slices.Equal[poly]) {
					t.Error(name, x, y, "shared memory")
				}
			}
		}
	}
}
