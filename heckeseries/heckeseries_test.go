package heckeseries_test

import (
	"math"
	"math/big"
	"math/rand"
	"slices"
	"testing"

	"halfplane/api"
	"halfplane/heckeseries"
	"halfplane/series"
)

// spec names a space.
func spec(level, weight, disc int) api.Spec {
	return api.Spec{Level: level, Weight: weight, Disc: disc}
}

// checkOf is P37.1 for numbers that are not too large.
func checkOf(s api.Spec) api.Errno {
	switch {
	case s.Level < 1 || s.Level > 600 || s.Weight < 1 || s.Weight > 60:
		return api.ErrRange
	case s.Disc < -600 || s.Disc > 600 || s.Disc == 0 || !isFundamental(s.Disc):
		return api.ErrDisc
	case s.Level%s.Disc != 0:
		return api.ErrLevel
	}
	return api.OK
}

// wrong returns a space for each error of Check.
func wrong() map[api.Errno]api.Spec {
	return map[api.Errno]api.Spec{
		api.ErrRange: spec(0, 2, 2), api.ErrDisc: spec(3, 2, 2), api.ErrLevel: spec(3, 2, -4),
	}
}

func TestCheck(t *testing.T) { // P37.1
	for _, level := range []int{math.MinInt, -1, 0, 1, 2, 5, 12, 24, 60, 599, 600, 601, math.MaxInt} {
		for _, weight := range []int{math.MinInt, -1, 0, 1, 2, 59, 60, 61, math.MaxInt} {
			for disc := -1300; disc <= 1300; disc++ {
				s := spec(level, weight, disc)
				if got := heckeseries.Check(s); got != checkOf(s) {
					t.Fatalf("Check(%v): %d, not %d", s, got, checkOf(s))
				}
			}
			for _, disc := range []int{math.MinInt, math.MinInt + 1, math.MaxInt, 1 << 40} {
				s := spec(level, weight, disc)
				if got := heckeseries.Check(s); got != checkOf(s) {
					t.Errorf("Check(%v): %d, not %d", s, got, checkOf(s))
				}
			}
		}
	}
	for level := 1; level <= 600; level++ {
		for disc := -level; disc <= level; disc++ {
			s := spec(level, 1+level%60, disc)
			if got := heckeseries.Check(s); got != checkOf(s) {
				t.Errorf("Check(%v): %d, not %d", s, got, checkOf(s))
			}
		}
	}
}

func TestSpaces(t *testing.T) { // P37.1: the error of the space is the first one
	bad := of(-101)
	long := make([]api.Series, 65)
	for want, s := range wrong() {
		b, e := heckeseries.Hecke(bad, s, 0)
		expectError(t, "Hecke", b, e, want)
		c, e := heckeseries.Eigenvalue(bad, s, 0)
		expectError(t, "Eigenvalue", c, e, want)
		b, e = heckeseries.Euler(s, nil, -1)
		expectError(t, "Euler", b, e, want)
		n, ok, e := heckeseries.Multiplicative(bad, s)
		expectError(t, "Multiplicative", n, e, want)
		expectError(t, "Multiplicative", ok, e, want)
		m, e := heckeseries.MatrixOn(long, s, 0)
		expectError(t, "MatrixOn", m, e, want)
		m, e = heckeseries.MatrixOn(nil, s, 0)
		expectError(t, "MatrixOn", m, e, want)
	}
}

// gcd is Euclid's algorithm.
func gcd(a, b int) int {
	for b != 0 {
		a, b = b, a%b
	}
	return max(a, -a)
}

// chi returns the character of a space.
func chi(s api.Spec, n int) int64 {
	if gcd(s.Level, n) != 1 {
		return 0
	}
	return symbol(s.Disc, n)
}

// weighted returns chi(d) d^(k-1).
func weighted(s api.Spec, d int) *big.Rat {
	z := new(big.Int).Exp(big.NewInt(int64(d)), big.NewInt(int64(s.Weight-1)), nil)
	return new(big.Rat).SetInt(z.Mul(z, big.NewInt(chi(s, d))))
}

// hecke returns T_n of a series, by the definition.
func hecke(f laurent, s api.Spec, n int) laurent {
	weights := make([]*big.Rat, n+1)
	for d := 1; d <= n; d++ {
		weights[d] = weighted(s, d)
	}
	first := min(0, n*f.order())
	return from(first, (f.prec+n-1)/n, func(m int) *big.Rat {
		sum := new(big.Rat)
		for d := 1; d <= n; d++ {
			if n%d == 0 && m%d == 0 {
				sum.Add(sum, new(big.Rat).Mul(weights[d], f.at(m/d*(n/d))))
			}
		}
		return sum
	})
}

// spaces returns spaces of all kinds.
func spaces() []api.Spec {
	return []api.Spec{
		spec(1, 12, 1), spec(1, 1, 1), spec(11, 2, 1), spec(4, 5, -4), spec(12, 3, -3), spec(5, 2, 5), spec(600, 60, 24),
		spec(24, 4, -8), spec(6, 7, 1), spec(599, 59, -599), spec(60, 1, -15), spec(40, 2, 40),
	}
}

func TestHecke(t *testing.T) { // P37.2
	r := rand.New(rand.NewSource(371))
	for _, s := range spaces() {
		for _, a := range append(valid(), random(r, 30), random(r, 60), random(r, 90), of(-3, 1, 2, 3, 4, 5, 6, 7, 8, 9)) {
			for _, n := range []int{1, 2, 3, 4, 5, 6, 7, 8, 9, 12, 30, 36, 60, 100, 101, 125} {
				f := read(a)
				b, e := heckeseries.Hecke(a, s, n)
				if f.prec < 1 {
					expectError(t, "Hecke", b, e, api.ErrPrec)
					continue
				}
				expect(t, "Hecke", b, e, hecke(f, s, n))
			}
		}
	}
}

func TestHeckeLimits(t *testing.T) { // P37.2
	s := spec(6, 2, 1)
	whole := api.Series{From: 0, Coef: make([]api.Rat, 1000)}
	for i := range whole.Coef {
		whole.Coef[i] = fraction(int64(i*i%97), 1+int64(i%3))
	}
	for _, n := range []int{1, 2, 5, 7, 500, 999, 1000} {
		b, e := heckeseries.Hecke(whole, s, n)
		expect(t, "Hecke", b, e, hecke(read(whole), s, n))
	}
	for _, n := range []int{math.MinInt, -1, 0, 1001, math.MaxInt} {
		for _, a := range append(valid(), of(-200, 1)) {
			b, e := heckeseries.Hecke(a, s, n)
			expectError(t, "Hecke", b, e, api.ErrRange)
		}
	}
	for _, a := range invalid() {
		b, e := heckeseries.Hecke(a, s, 2)
		expectError(t, "Hecke", b, e, api.ErrRange)
	}
	for _, a := range []api.Series{{}, of(-5, 1, 2, 3, 4, 5), of(-100, 1), of(-100)} {
		b, e := heckeseries.Hecke(a, s, 3)
		expectError(t, "Hecke", b, e, api.ErrPrec)
	}
}

func TestHeckePoles(t *testing.T) { // P37.2: ErrRange as layer 33 for results
	for _, c := range []struct {
		s     api.Spec
		order int
		n     int
	}{
		{spec(1, 2, 1), -1, 100}, {spec(1, 2, 1), -1, 101}, {spec(1, 2, 1), -20, 5}, {spec(1, 2, 1), -20, 6},
		{spec(6, 2, 1), -100, 6}, {spec(6, 2, 1), -100, 12}, {spec(6, 2, 1), -18, 30}, {spec(6, 2, 1), -36, 30},
		{spec(6, 2, 1), -35, 30}, {spec(6, 2, 1), -126, 30}, {spec(2, 2, 1), -16, 60}, {spec(2, 2, 1), -28, 60},
	} {
		a := of(max(c.order, -100), 3)
		a.Coef = append(a.Coef, make([]api.Rat, 110)...)
		b, e := heckeseries.Hecke(a, c.s, c.n)
		expect(t, "Hecke", b, e, hecke(read(a), c.s, c.n))
	}
}

func TestExamples(t *testing.T) { // P37.2, P37.3, P37.4
	delta := of(1, 1, -24, 252, -1472)
	b, e := heckeseries.Hecke(delta, spec(1, 12, 1), 2)
	expect(t, "T_2 of Delta", b, e, read(of(1, -24, 576)))
	c, e := heckeseries.Eigenvalue(delta, spec(1, 12, 1), 2)
	if e != api.OK || !sameRats([]api.Rat{c}, []api.Rat{fraction(-24, 1)}) {
		t.Errorf("eigenvalue of Delta: %v, %d", c, e)
	}
	e4 := of(0, 1, 240, 2160)
	b, e = heckeseries.Hecke(e4, spec(1, 4, 1), 2)
	expect(t, "T_2 of E_4", b, e, read(of(0, 9, 2160)))
	c, e = heckeseries.Eigenvalue(e4, spec(1, 4, 1), 2)
	if e != api.OK || !sameRats([]api.Rat{c}, []api.Rat{fraction(9, 1)}) {
		t.Errorf("eigenvalue of E_4: %v, %d", c, e)
	}
	b, e = heckeseries.Euler(spec(11, 2, 1), of(0, -2, -1, 1).Coef, 7)
	expect(t, "Euler", b, e, read(of(1, 1, -2, -1, 2, 1, 2)))
}

func TestEigenvalue(t *testing.T) { // P37.3
	s := spec(1, 4, 1)
	for _, c := range []struct {
		a    api.Series
		n    int
		want api.Rat
		e    api.Errno
	}{
		{of(0, 1, 240, 2160, 6720), 3, fraction(28, 1), api.OK},
		{of(0, 1, 240, 2160, 6720), 1, fraction(1, 1), api.OK},
		{of(0, 1, 240, 2161), 2, api.Rat{}, api.ErrDiffer},  // 240 * 9 is not 2161
		{of(0, 1, 240, 2160, 0), 2, fraction(9, 1), api.OK}, // T_2 is 9 + 2160 q + O(q^2)
		{of(1, 1, 0, 5), 2, fraction(0, 1), api.OK},         // T_2 is O(q^2), and a is q + O(q^2)
		{of(1, 1, 0, 5, -8), 2, fraction(0, 1), api.OK},     // T_2 is (-8 + 8) q^2 + O(q^3)
		{of(1, 1, 0, 5, -7), 2, api.Rat{}, api.ErrDiffer},   // T_2 is q^2 + O(q^3)
		{of(-1, 1, 0, 0, 0), 2, api.Rat{}, api.ErrDiffer},   // T_2 has the order -2
		{of(2, 1, 5, 8), 2, api.Rat{}, api.ErrDiffer},       // T_2 has the order 1
		{of(0, 0, 0, 5), 2, api.Rat{}, api.ErrPole},         // T_2 has the precision 2
		{of(0, 0, 5, 0), 3, api.Rat{}, api.ErrPole},
		{of(3), 1, api.Rat{}, api.ErrPole},
		{of(-2, 1, 2), 1, api.Rat{}, api.ErrPrec},
		{of(-2, 1, 2), 0, api.Rat{}, api.ErrRange},
		{of(-2, 1, 2, 3), 51, api.Rat{}, api.ErrRange},
		{of(-101, 1), 1, api.Rat{}, api.ErrRange},
	} {
		got, e := heckeseries.Eigenvalue(c.a, s, c.n)
		if e != c.e {
			t.Errorf("Eigenvalue of %v, %d: error %d, not %d", show(c.a), c.n, e, c.e)
		} else if e != api.OK {
			expectError(t, "Eigenvalue", got, e, c.e)
		} else if !sameRats([]api.Rat{got}, []api.Rat{c.want}) {
			t.Errorf("Eigenvalue of %v, %d: %v", show(c.a), c.n, toRat(got))
		}
	}
	// A pole that stays where it is: the level divides n.
	got, e := heckeseries.Eigenvalue(of(-1, 0, 3, 5, 6, 6, 10), spec(2, 4, 1), 2)
	if e != api.ErrDiffer {
		t.Errorf("Eigenvalue: %v, %d", got, e)
	}
	got, e = heckeseries.Eigenvalue(of(0, 0, 3, -6, 7, 12), spec(2, 4, 1), 2)
	if e != api.OK || toRat(got).Cmp(big.NewRat(-2, 1)) != 0 {
		t.Errorf("Eigenvalue: %v, %d", got, e)
	}
}

// primesBelow returns the primes below n.
func primesBelow(n int) []int {
	var l []int
	for p := 2; p < n; p++ {
		if !slices.ContainsFunc(l, func(q int) bool { return p%q == 0 }) {
			l = append(l, p)
		}
	}
	return l
}

// related returns the a(n) that belong to those of the primes, by the relations of P37.4,
// each of which is looked up in order.
func related(s api.Spec, ap []api.Rat, prec int) laurent {
	a := map[int]*big.Rat{1: big.NewRat(1, 1)}
	for i, p := range primesBelow(prec) {
		a[p] = toRat(ap[i])
		for q := p * p; q < prec; q *= p {
			x := new(big.Rat).Mul(a[p], a[q/p])
			a[q] = x.Sub(x, new(big.Rat).Mul(weighted(s, p), a[q/p/p]))
		}
	}
	return from(1, prec, func(n int) *big.Rat {
		product := big.NewRat(1, 1)
		for p := 2; n > 1; p++ {
			q := 1
			for n%p == 0 {
				n, q = n/p, q*p
			}
			product.Mul(product, a[q])
		}
		return product
	})
}

// someRats returns a list of fractions.
func someRats(r *rand.Rand, n int) []api.Rat {
	l := make([]api.Rat, n)
	for i := range l {
		l[i] = randomRat(r)
	}
	return l
}

func TestEuler(t *testing.T) { // P37.4
	r := rand.New(rand.NewSource(372))
	for _, s := range spaces() {
		for _, prec := range []int{0, 1, 2, 3, 4, 5, 30, 100, 130} {
			count := len(primesBelow(prec))
			for _, more := range []int{0, 1, 7} {
				ap := someRats(r, count+more)
				a, e := heckeseries.Euler(s, ap, prec)
				expect(t, "Euler", a, e, related(s, ap, prec))
			}
			if count > 0 {
				a, e := heckeseries.Euler(s, someRats(r, count-1), prec)
				expectError(t, "Euler", a, e, api.ErrPrec)
			}
		}
	}
	small := make([]api.Rat, 168)
	for i := range small {
		small[i] = fraction(int64(i%3-1), 1)
	}
	a, e := heckeseries.Euler(spec(7, 1, -7), small, 1000)
	expect(t, "Euler", a, e, related(spec(7, 1, -7), small, 1000))
	a, e = heckeseries.Euler(spec(7, 1, -7), small[:167], 1000)
	expectError(t, "Euler", a, e, api.ErrPrec)
	for _, prec := range []int{math.MinInt, -1, 1001, math.MaxInt} {
		a, e = heckeseries.Euler(spec(7, 1, -7), nil, prec)
		expectError(t, "Euler", a, e, api.ErrRange)
	}
}

func TestMultiplicative(t *testing.T) { // P37.4
	r := rand.New(rand.NewSource(373))
	check := func(a api.Series, s api.Spec, n int, ok bool) {
		t.Helper()
		m, yes, e := heckeseries.Multiplicative(a, s)
		if e != api.OK || m != n || yes != ok {
			t.Errorf("Multiplicative: %d, %v, %d; want %d, %v", m, yes, e, n, ok)
		}
	}
	for _, s := range spaces() {
		ap := someRats(r, 12)
		f := related(s, ap, 38)
		f.coef[0], f.coef[-3] = big.NewRat(5, 7), big.NewRat(1, 1)
		a, _ := write(f)
		check(a, s, 38, true)
		isPrime := primesBelow(38)
		for n := 1; n < 38; n++ {
			if slices.Contains(isPrime, n) {
				continue
			}
			b := copied(a)
			b.Coef[n+3] = fromRat(new(big.Rat).Add(toRat(b.Coef[n+3]), big.NewRat(1, 3)))
			check(b, s, n, false)
		}
	}
	s := spec(4, 1, -4)
	check(of(0), s, 0, true)
	check(of(1), s, 1, true)
	check(of(2), s, 1, false)
	check(of(1, 2), s, 1, false)
	check(of(1, 1), s, 2, true)
	check(of(-7, 1, 2, 3), s, -4, true)
	check(of(-2, 1, 2, 3, 1), s, 2, true)
	check(of(-2, 1, 2, 3), s, 1, true)
	check(of(-100), s, -100, true)
	check(of(1000), s, 1, false)
	check(of(1, 1, 5, 7, 26), s, 4, false)
	check(of(1, 1, 5, 7, 25, -2, 35, 11, 125), s, 9, true)
	for _, a := range invalid() {
		n, ok, e := heckeseries.Multiplicative(a, s)
		expectError(t, "Multiplicative", n, e, api.ErrRange)
		expectError(t, "Multiplicative", ok, e, api.ErrRange)
	}
}

func TestRelations(t *testing.T) { // P37.6
	r := rand.New(rand.NewSource(374))
	for _, s := range spaces() {
		a := random(r, 100)
		a.From = max(a.From, -2)
		a.Coef = append(a.Coef, someRats(r, 40)...)
		for _, pair := range [][2]int{{2, 3}, {2, 2}, {4, 6}, {3, 9}, {5, 7}, {6, 6}} {
			m, n := pair[0], pair[1]
			first, e1 := heckeseries.Hecke(a, s, n)
			got, e2 := heckeseries.Hecke(first, s, m)
			second, e3 := heckeseries.Hecke(a, s, m)
			other, e4 := heckeseries.Hecke(second, s, n)
			if max(e1, e2, e3, e4) != api.OK || !alike(got, other) {
				t.Errorf("T_%d and T_%d do not commute in %v", m, n, s)
			}
			sum := api.Series{From: 1000}
			for d := 1; d <= m; d++ {
				if m%d == 0 && n%d == 0 {
					part, _ := heckeseries.Hecke(a, s, m*n/d/d)
					part, _ = series.Scale(fromRat(weighted(s, d)), part)
					sum, _ = series.Add(sum, part)
				}
			}
			if at, differ, e := series.Differ(got, sum); differ || e != api.OK {
				t.Errorf("T_%d T_%d in %v: coefficient %d", m, n, s, at)
			}
		}
	}
}

func TestEulerIsEigenvector(t *testing.T) { // P37.6
	r := rand.New(rand.NewSource(375))
	for _, s := range spaces() {
		ap := someRats(r, 30)
		a, _ := heckeseries.Euler(s, ap, 100)
		for i, p := range primesBelow(100) {
			c, e := heckeseries.Eigenvalue(a, s, p)
			if p < 50 && (e != api.OK || toRat(c).Cmp(toRat(ap[i])) != 0) {
				t.Errorf("eigenvalue at %d in %v: %v, %d", p, s, c, e)
			}
		}
	}
}

func TestContract(t *testing.T) { // P37.6
	r := rand.New(rand.NewSource(376))
	for range 20 {
		a := random(r, 60)
		a.Coef = append(a.Coef, someRats(r, 40)...)
		for _, p := range []int{2, 3, 5} {
			b, e := heckeseries.Hecke(a, spec(30, 4, 1), p)
			want, _ := series.Contract(a, p)
			if e != api.OK || !alike(b, want) {
				t.Errorf("T_%d of level 30: %v, %d", p, show(b), e)
			}
		}
	}
}

func TestMemory(t *testing.T) { // R3
	a := of(1, 1, -24, 252, -1472, 4830)
	ap := of(0, 5, 6, 7).Coef
	s := spec(1, 12, 1)
	list := []api.Series{a, of(0, 691, 65520)}
	list[1].Coef = append(list[1].Coef, make([]api.Rat, 3)...)
	save, saveList, saveAp := copied(a), []api.Series{copied(list[0]), copied(list[1])}, copied(api.Series{Coef: ap})
	for name, f := range map[string]func() (api.Series, api.Errno){
		"Hecke": func() (api.Series, api.Errno) { return heckeseries.Hecke(a, s, 1) },
		"Euler": func() (api.Series, api.Errno) { return heckeseries.Euler(s, ap, 6) },
		"Eigenvalue": func() (api.Series, api.Errno) {
			c, e := heckeseries.Eigenvalue(a, s, 2)
			return api.Series{Coef: []api.Rat{c}}, e
		},
		"Multiplicative": func() (api.Series, api.Errno) {
			_, _, e := heckeseries.Multiplicative(a, s)
			return api.Series{}, e
		},
		"MatrixOn": func() (api.Series, api.Errno) {
			m, e := heckeseries.MatrixOn(list, s, 1)
			return api.Series{Coef: m.A}, e
		},
	} {
		got, e := f()
		want := copied(got)
		if e != api.OK {
			t.Errorf("%s: %d", name, e)
		}
		for i := range got.Coef {
			other, keep := copied(got), got.Coef[i]
			spoil(api.Series{Coef: []api.Rat{keep}})
			for j := range got.Coef {
				if j != i && !sameRats(got.Coef[j:j+1], other.Coef[j:j+1]) {
					t.Errorf("%s: coefficients %d and %d share memory", name, i, j)
				}
			}
		}
		spoil(got)
		if !alike(a, save) || !alike(list[0], saveList[0]) || !alike(list[1], saveList[1]) || !sameRats(ap, saveAp.Coef) {
			t.Fatalf("%s shares memory with an argument, or changes it", name)
		}
		if again, _ := f(); !alike(again, want) {
			t.Errorf("%s: %v, then %v", name, show(want), show(again))
		}
	}
}
