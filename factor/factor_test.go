package factor_test

import (
	"math/big"
	"math/rand"
	"slices"
	"testing"

	"halfplane/api"
	"halfplane/bigint"
	"halfplane/factor"
	"halfplane/fpoly"
	"halfplane/rational"
	"halfplane/zpoly"
)

// TestLimits calls every function with polynomials that are 0, or too large, or just not.
func TestLimits(t *testing.T) { // P7.1 to P7.4
	for _, c := range []struct {
		f api.ZPoly
		e api.Errno
	}{
		{nil, api.ErrZero}, {api.ZPoly{minusZero, {}}, api.ErrZero}, {make(api.ZPoly, 100), api.ErrZero},
		{binomial(33, 1), api.ErrLarge}, {binomial(32, 1), api.OK}, {append(unusual(binomial(32, 1)), minusZero), api.OK},
		{api.ZPoly{bigint.Of(1), greatest(4096)}, api.OK}, {api.ZPoly{bigint.Of(1), greatest(4097)}, api.ErrLarge}, {api.ZPoly{greatest(4097), bigint.Of(1)}, api.ErrLarge},
		{unusual(api.ZPoly{bigint.Neg(greatest(4096)), bigint.Of(1)}), api.OK}, {api.ZPoly{greatest(4097)}, api.ErrLarge}, {api.ZPoly{greatest(4096)}, api.OK},
		{of(1), api.OK}, {of(-6, 2), api.OK},
	} {
		if b, e := factor.Bound(c.f); e != c.e || e != api.OK && len(b.Mag) > 0 {
			t.Error("Bound", c.e, e)
		}
		if content, l, e := factor.Factor(c.f); e != c.e || e != api.OK && (l != nil || len(content.Mag) > 0) {
			t.Error("Factor", c.e, e)
		}
		if ok, e := factor.Irreducible(c.f); e != c.e || e != api.OK && ok {
			t.Error("Irreducible", c.e, e)
		}
		if l, e := factor.Roots(c.f); e != c.e || e != api.OK && l != nil {
			t.Error("Roots", c.e, e)
		}
		if c.e == api.OK {
			continue
		}
		// These errors come before that of a number that is not prime.
		for _, p := range []int{5, 6} {
			if l, e := factor.Degrees(c.f, p); e != c.e || l != nil {
				t.Error("Degrees", c.e, e)
			}
			if l, e := factor.Lift(c.f, p, 100); e != c.e || l != nil {
				t.Error("Lift", c.e, e)
			}
		}
		if l, ok := factor.Prove(c.f); ok || l != nil {
			t.Error("Prove", c.e)
		}
		if factor.Check(c.f, nil) || factor.Check(c.f, []api.Pattern{{Prime: 3, Degrees: []int{33}}}) {
			t.Error("Check", c.e)
		}
	}
}

func TestBound(t *testing.T) { // P7.1
	for _, c := range []struct {
		f    string
		want int
	}{{"x^2 - 2", 12}, {"1", 2}, {"-7", 8}, {"x", 4}, {"3*x + 4", 12}, {"x^3 + x^2 + x + 1", 24}, {"x + 1", 4}} {
		b, e := factor.Bound(parse(t, c.f))
		if n, ok := bigint.Small(b); e != api.OK || !ok || n != c.want {
			t.Error(c, b, e)
		}
	}
	r := rand.New(rand.NewSource(1))
	for i := range 300 {
		f := randomPoly(r, r.Intn(33), 1+i%9)
		want := new(big.Int)
		for _, c := range toPoly(f) {
			want.Add(want, new(big.Int).Mul(c, c))
		}
		want.Sqrt(want).Add(want, big.NewInt(1)).Lsh(want, uint(len(f)-1))
		if b, e := factor.Bound(unusual(f)); e != api.OK || !normalized(b) || toInt(b).Cmp(want) != 0 {
			t.Fatal(f, b, e)
		}
	}
}

func TestLift(t *testing.T) { // P7.2
	l, e := factor.Lift(of(1, 0, 1), 5, 2)
	if e != api.OK || len(l) != 2 || zpoly.Format(l[0]) != "x + 7" || zpoly.Format(l[1]) != "x + 18" {
		t.Error(l, e)
	}
	r := rand.New(rand.NewSource(2))
	primes := []int{2, 3, 5, 7, 11, 101, 65521}
	for i := range 600 {
		f := product(randomPoly(r, r.Intn(7), 1+i%3), randomPoly(r, r.Intn(5), 1))
		checkLift(t, f, primes[i%len(primes)], 1+r.Intn(64))
	}
	for k := 1; k <= 64; k++ {
		checkLift(t, of(-6, 11, -6, 1), 7, k)
		checkLift(t, of(5, 0, 3, 3), 2, k)
	}
	checkLift(t, binomial(32, -1), 193, 64) // 32 linear factors
	checkLift(t, rootsOfSquares(-1, 2, 3, 5, 7), 65521, 20)
	for _, n := range []int{5, -5, 1} { // no factors
		if l, e := factor.Lift(of(n), 3, 4); e != api.OK || len(l) != 0 {
			t.Error(n, l, e)
		}
	}
	f := of(2, 0, 6) // 6 x^2 + 2
	for _, c := range []struct {
		f    api.ZPoly
		p, k int
		e    api.Errno
	}{
		{f, 0, 3, api.ErrPrime}, {f, 1, 3, api.ErrPrime}, {f, -7, 3, api.ErrPrime}, {f, 9, 3, api.ErrPrime}, {f, 65537, 3, api.ErrPrime}, {f, 1 << 40, 3, api.ErrPrime}, {f, 9, 0, api.ErrPrime},
		{f, 5, 0, api.ErrRange}, {f, 5, -1, api.ErrRange}, {f, 5, 65, api.ErrRange}, {f, 3, 65, api.ErrRange}, {f, 5, 64, api.OK}, {f, 65521, 64, api.OK},
		{f, 2, 3, api.ErrForm}, {f, 3, 3, api.ErrForm}, {of(1, 2, 1), 5, 3, api.ErrForm}, {of(6, 0, 1), 3, 1, api.ErrForm}, {of(6), 3, 1, api.ErrForm}, {of(0, 0, 1), 3, 1, api.ErrForm},
	} {
		if l, e := factor.Lift(c.f, c.p, c.k); e != c.e || (e != api.OK && l != nil) {
			t.Error(c, l, e)
		}
	}
}

// checkLift checks the properties that determine the result of Lift.
func checkLift(t *testing.T, f api.ZPoly, p, k int) {
	t.Helper()
	l, e := factor.Lift(f, p, k)
	residues := make(api.FPoly, len(f))
	for i, c := range toPoly(f) {
		residues[i] = int(new(big.Int).Mod(c, big.NewInt(int64(p))).Int64())
	}
	_, factors, _ := fpoly.Factor(p, residues)
	admissible := residues[zpoly.Degree(f)] != 0 && !slices.ContainsFunc(factors, func(x api.FFactor) bool { return x.Exp > 1 })
	if !admissible {
		if e != api.ErrForm || l != nil {
			t.Fatal(f, p, k, e)
		}
		return
	}
	if e != api.OK || len(l) != len(factors) {
		t.Fatal(f, p, k, l, e)
	}
	modulus := new(big.Int).Exp(big.NewInt(int64(p)), big.NewInt(int64(k)), nil)
	all := api.ZPoly{f[zpoly.Degree(f)]}
	for i, g := range l {
		all = zpoly.Mul(all, g)
		if len(g) != len(factors[i].Poly) || !isNormal(g) || toInt(g[len(g)-1]).Cmp(big.NewInt(1)) != 0 {
			t.Fatal(f, p, k, l)
		}
		for j, c := range toPoly(g) {
			if c.Sign() < 0 || c.Cmp(modulus) >= 0 || new(big.Int).Mod(c, big.NewInt(int64(p))).Int64() != int64(factors[i].Poly[j]) {
				t.Fatal(f, p, k, l)
			}
		}
	}
	for _, c := range toPoly(zpoly.Sub(f, all)) {
		if new(big.Int).Mod(c, modulus).Sign() != 0 {
			t.Fatal(f, p, k, l)
		}
	}
}

// checkFactors checks everything but that the factors are irreducible, and returns them.
func checkFactors(t *testing.T, f api.ZPoly) []api.Factor {
	t.Helper()
	c, l, e := factor.Factor(f)
	if e != api.OK || !normalized(c) {
		t.Fatal(zpoly.Format(f), c, e)
	}
	all := api.ZPoly{c}
	for i, x := range l {
		if x.Exp < 1 || zpoly.Degree(x.Poly) < 1 || !isNormal(x.Poly) || text(x.Poly) != text(zpoly.Primitive(x.Poly)) || i > 0 && !precedes(l[i-1].Poly, x.Poly) {
			t.Fatal(zpoly.Format(f), formatFactors(c, l))
		}
		for range x.Exp {
			all = zpoly.Mul(all, x.Poly)
		}
	}
	if text(all) != text(zpoly.Normal(f)) {
		t.Fatal(zpoly.Format(f), formatFactors(c, l))
	}
	irreducible, e := factor.Irreducible(f)
	if e != api.OK || irreducible != (len(l) == 1 && l[0].Exp == 1) {
		t.Fatal(zpoly.Format(f), irreducible, e)
	}
	return l
}

func TestFactor(t *testing.T) { // P7.3
	for _, c := range [][2]string{
		{"-2*x^4 + 2", "-2 (x - 1) (x + 1) (x^2 + 1)"}, {"x^4 + 4", "1 (x^2 - 2*x + 2) (x^2 + 2*x + 2)"}, {"7", "7"}, {"-1", "-1"}, {"-6*x", "-6 (x)"},
		{"4*x^2 - 4", "4 (x - 1) (x + 1)"}, {"x^4 + 1", "1 (x^4 + 1)"}, {"6*x^3 - 5*x^2 + x", "1 (x) (2*x - 1) (3*x - 1)"}, {"x^12", "1 (x) (x) (x) (x) (x) (x) (x) (x) (x) (x) (x) (x)"},
		{"12*x^2 + 12*x + 3", "3 (2*x + 1) (2*x + 1)"}, {"x^4 + x^2 + 1", "1 (x^2 - x + 1) (x^2 + x + 1)"}, {"x^6 - 1", "1 (x - 1) (x + 1) (x^2 - x + 1) (x^2 + x + 1)"},
		{"x^4 - 10*x^2 + 1", "1 (x^4 - 10*x^2 + 1)"}, {"-x^3 + 2", "-1 (x^3 - 2)"}, {"4*x^4 + 1", "1 (2*x^2 - 2*x + 1) (2*x^2 + 2*x + 1)"}, {"x^5 - x - 1", "1 (x^5 - x - 1)"},
		{"x^5 + x + 1", "1 (x^2 + x + 1) (x^3 - x^2 + 1)"}, {"6*x^2 - 5*x - 6", "1 (2*x - 3) (3*x + 2)"}, {"6*x^2 + 5*x - 6", "1 (2*x + 3) (3*x - 2)"},
	} {
		f := parse(t, c[0])
		content, l, _ := factor.Factor(f)
		if s := formatFactors(content, l); s != c[1] {
			t.Error(c, s)
		}
		checkFactors(t, f)
		checkFactors(t, unusual(f))
	}
	r := rand.New(rand.NewSource(3))
	for range 3000 {
		f := smallPoly(r, 1+r.Intn(5), 1+r.Intn(6))
		for _, x := range checkFactors(t, f) {
			if zpoly.Degree(x.Poly) > 1 && isReducible(x.Poly) {
				t.Fatal(zpoly.Format(f), zpoly.Format(x.Poly))
			}
		}
	}
}

func TestFactorProducts(t *testing.T) { // P7.3, P7.5
	r := rand.New(rand.NewSource(4))
	// Polynomials that are known to be irreducible.
	known := []api.ZPoly{of(0, 1), of(-1, 1), of(1, 1), of(2, 3), of(-5, 7), binomial(2, 1), binomial(3, -2), of(1, -1, 0, 0, 0, 0, 0, 1), rootsOfSquares(2, 3), rootsOfSquares(-1, 2, 5), binomial(4, 1), binomial(8, 1),
		of(-1, -1, 0, 1), of(1, 0, -10, 0, 1), of(3, 6, 12, 2), of(1, 1, 1, 1, 1), of(-1, -1, 0, 0, 0, 0, 1), rootsOfSquares(2, 3, 5), of(6, 0, 0, 0, 0, 35)}
	for range 400 {
		f := of(1 - 2*r.Intn(2))
		want := map[string]int{}
		for range 1 + r.Intn(6) {
			g := known[r.Intn(len(known))]
			if zpoly.Degree(f)+zpoly.Degree(g) > 32 {
				break
			}
			f = zpoly.Mul(f, g)
			want[zpoly.Format(g)]++
		}
		l := checkFactors(t, f)
		if len(l) != len(want) {
			t.Fatal(zpoly.Format(f), l)
		}
		for _, x := range l {
			if want[zpoly.Format(x.Poly)] != x.Exp {
				t.Fatal(zpoly.Format(f), l)
			}
		}
	}
	// Cyclotomic polynomials: x^n - 1 has a factor for every divisor of n.
	for n := 1; n <= 32; n++ {
		divisors := 0
		for d := 1; d <= n; d++ {
			if n%d == 0 {
				divisors++
			}
		}
		if l := checkFactors(t, binomial(n, -1)); len(l) != divisors {
			t.Error(n, l)
		}
	}
}

// TestHardFactors factors polynomials that have many factors modulo every prime, or
// great coefficients.
func TestHardFactors(t *testing.T) { // P7.3, P1
	r := rand.New(rand.NewSource(5))
	for _, c := range []struct {
		f     api.ZPoly
		count int
	}{
		{rootsOfSquares(-1, 2, 3, 5, 7), 1}, {rootsOfSquares(2, 3, 5, 7, 11), 1}, {product(rootsOfSquares(2, 3, 5, 7), rootsOfSquares(-1, 2, 3, 5)), 2},
		{product(rootsOfSquares(2, 3, 5), rootsOfSquares(2, 3, 7), rootsOfSquares(2, 5, 7), rootsOfSquares(-3, 5, 7)), 4},
		{product(randomPoly(r, 16, 60), randomPoly(r, 16, 60)), 2}, {randomPoly(r, 32, 128), 1}, {product(randomPoly(r, 1, 60), randomPoly(r, 31, 60)), 2},
		{api.ZPoly{greatest(4096), greatest(4096)}, 1}, {api.ZPoly{bigint.Neg(greatest(4096)), {}, greatest(4096)}, 2},
	} {
		if l := checkFactors(t, c.f); len(l) != c.count {
			t.Error(zpoly.Format(c.f), len(l))
		}
	}
	linear := of(1)
	for range 32 {
		linear = zpoly.Mul(linear, randomPoly(r, 1, 2))
	}
	if l := checkFactors(t, linear); len(l) != 32 {
		t.Error(len(l))
	}
	roots, e := factor.Roots(linear)
	if e != api.OK || len(roots) != 32 {
		t.Error(roots, e)
	}
	// A discriminant that all primes below 100 divide.
	f := of(1)
	for i := range 32 {
		f = zpoly.Mul(f, of(-i*i*i, 1))
	}
	if l := checkFactors(t, f); len(l) != 32 {
		t.Error(len(l))
	}
}

func TestIrreducible(t *testing.T) { // P7.3
	for _, c := range []struct {
		f    string
		want bool
	}{{"x", true}, {"-4*x + 6", true}, {"7", false}, {"-1", false}, {"x^2", false}, {"x^2 - 2", true}, {"4*x^2 - 8", true}, {"x^2 - 4", false}, {"x^4 + 1", true}, {"x^4 + 4", false}, {"-3*x^2 - 3", true},
		{"x^4 + 2*x^2 + 1", false}, {"x^32 + 1", true}, {"x^32 - 2", true}, {"x^31 - 1", false}} {
		if got, e := factor.Irreducible(parse(t, c.f)); got != c.want || e != api.OK {
			t.Error(c, got, e)
		}
	}
}

func TestRoots(t *testing.T) { // P7.3
	for _, c := range [][2]string{{"6*x^3 - 5*x^2 + x", "0 1/3 1/2 "}, {"x^2 - 2", ""}, {"5", ""}, {"x^3 - x", "-1 0 1 "}, {"-4*x^2 - 4*x - 1", "-1/2 "}, {"x^5", "0 "}, {"x^3 - 8", "2 "}, {"3*x + 6", "-2 "}, {"100*x^2 - 1", "-1/10 1/10 "}} {
		l, e := factor.Roots(parse(t, c[0]))
		s := ""
		for _, a := range l {
			s += rational.Format(a) + " "
		}
		if s != c[1] || e != api.OK {
			t.Error(c, s, e)
		}
	}
	r := rand.New(rand.NewSource(6))
	for range 300 {
		want := map[string]bool{}
		f := of(1, 0, 1+r.Intn(3))
		for range r.Intn(8) {
			n, d := r.Intn(41)-20, 1+r.Intn(20)
			f = zpoly.Mul(f, of(-n, d))
			a, _ := rational.Make(bigint.Of(n), bigint.Of(d))
			want[rational.Format(a)] = true
		}
		l, e := factor.Roots(f)
		if e != api.OK || len(l) != len(want) {
			t.Fatal(zpoly.Format(f), l, e)
		}
		for i, a := range l {
			if !want[rational.Format(a)] || i > 0 && rational.Cmp(l[i-1], a) >= 0 || !normalized(a.Num) || !normalized(a.Den) {
				t.Fatal(zpoly.Format(f), l)
			}
		}
	}
}

func TestDegrees(t *testing.T) { // P7.4
	for _, c := range []struct {
		f    string
		p    int
		want []int
		e    api.Errno
	}{
		{"x^2 + 1", 3, []int{2}, api.OK}, {"x^2 + 1", 5, []int{1, 1}, api.OK}, {"x^2 + 1", 2, nil, api.ErrForm}, {"x^4 + 1", 3, []int{2, 2}, api.OK}, {"x^4 + 1", 17, []int{1, 1, 1, 1}, api.OK},
		{"x^5 - x - 1", 2, []int{2, 3}, api.OK}, {"3*x^2 + 1", 3, nil, api.ErrForm}, {"x^2 + 1", 4, nil, api.ErrPrime}, {"x^2 + 1", -3, nil, api.ErrPrime}, {"x^2 + 1", 65537, nil, api.ErrPrime},
		{"x^2 + 1", 65521, []int{1, 1}, api.OK}, {"7", 5, nil, api.OK}, {"7", 7, nil, api.ErrForm}, {"2*x - 1", 3, []int{1}, api.OK}, {"x^2 - 4", 2, nil, api.ErrForm}, {"3*x^2 + 1", 9, nil, api.ErrPrime},
		{"x^6 + x^3 + 1", 19, []int{1, 1, 1, 1, 1, 1}, api.OK}, {"x^3 - 2", 5, []int{1, 2}, api.OK},
	} {
		if l, e := factor.Degrees(parse(t, c.f), c.p); !slices.Equal(l, c.want) || e != c.e {
			t.Error(c, l, e)
		}
	}
}

func TestProve(t *testing.T) { // P7.4
	for _, c := range []struct {
		f    string
		want []api.Pattern
		ok   bool
	}{
		{"x^2 + 1", []api.Pattern{{Prime: 3, Degrees: []int{2}}}, true}, {"x^4 + 1", nil, false}, {"x", nil, true}, {"-6*x + 4", nil, true}, {"7", nil, false}, {"x^2 - 1", nil, false}, {"x^2", nil, false},
		{"x^3 - 2", []api.Pattern{{Prime: 5, Degrees: []int{1, 2}}, {Prime: 7, Degrees: []int{3}}}, true}, {"2*x^2 + 1", []api.Pattern{{Prime: 3, Degrees: []int{1, 1}}, {Prime: 5, Degrees: []int{2}}}, true},
		{"x^5 - x - 1", []api.Pattern{{Prime: 2, Degrees: []int{2, 3}}, {Prime: 3, Degrees: []int{5}}}, true}, {"4*x^2 + 4", []api.Pattern{{Prime: 3, Degrees: []int{2}}}, true},
		{"x^4 - 10*x^2 + 1", nil, false},
	} {
		f := parse(t, c.f)
		l, ok := factor.Prove(f)
		if ok != c.ok || !slices.EqualFunc(l, c.want, samePattern) {
			t.Error(c, l, ok)
		}
		if ok != factor.Check(f, l) && zpoly.Degree(f) != 1 {
			t.Error(c, l)
		}
	}
	// The leading coefficient is divisible by all smaller primes; 199 is the last one below 200.
	for _, last := range []int{199, 211} {
		lead := bigint.Of(1)
		for p := 2; p < last; p++ {
			if isPrime(p) {
				lead = bigint.Mul(lead, bigint.Of(p))
			}
		}
		for c := 1; c < 20; c++ {
			f := api.ZPoly{bigint.Of(c), {}, lead}
			degrees, _ := factor.Degrees(f, last)
			want := last < 200 && len(degrees) == 1
			l, ok := factor.Prove(f)
			if ok != want || want && (len(l) != 1 || l[0].Prime != last) || !want && l != nil {
				t.Error(last, c, l, ok)
			}
		}
	}
	r := rand.New(rand.NewSource(7))
	for range 400 {
		f := smallPoly(r, 1+r.Intn(9), 1+r.Intn(9))
		l, ok := factor.Prove(f)
		irreducible, _ := factor.Irreducible(f)
		if ok && !irreducible || ok != factor.Check(f, l) && zpoly.Degree(f) > 1 {
			t.Fatal(zpoly.Format(f), l, ok)
		}
		if !ok {
			continue
		}
		// The patterns are those of the first admissible primes, and none can be left out at the end.
		next := 0
		for p := 2; next < len(l); p++ {
			degrees, e := factor.Degrees(f, p)
			if e != api.OK {
				continue
			}
			if l[next].Prime != p || !slices.Equal(l[next].Degrees, degrees) {
				t.Fatal(zpoly.Format(f), l)
			}
			next++
		}
		if len(l) > 0 && factor.Check(f, l[:len(l)-1]) {
			t.Fatal(zpoly.Format(f), l)
		}
	}
}

func samePattern(a, b api.Pattern) bool {
	return a.Prime == b.Prime && slices.Equal(a.Degrees, b.Degrees)
}

func isPrime(p int) bool {
	return big.NewInt(int64(p)).ProbablyPrime(0)
}

func TestCheck(t *testing.T) { // P7.4
	two, three := api.Pattern{Prime: 2, Degrees: []int{2, 3}}, api.Pattern{Prime: 3, Degrees: []int{5}}
	f := parse(t, "x^5 - x - 1")
	g := parse(t, "x^4 + 8*x + 12") // modulo 5 and 17 degrees 1 and 3, modulo 7 and others 2 and 2
	for _, c := range []struct {
		f    api.ZPoly
		l    []api.Pattern
		want bool
	}{
		{f, []api.Pattern{two, three}, true}, {f, []api.Pattern{three, two}, true}, {f, []api.Pattern{three}, true}, {f, []api.Pattern{three, three}, true}, {f, []api.Pattern{two}, false}, {f, nil, false},
		{unusual(f), []api.Pattern{two, three}, true}, {f, []api.Pattern{three, {Prime: 2, Degrees: []int{3, 2}}}, false}, {f, []api.Pattern{three, {Prime: 2, Degrees: []int{5}}}, false},
		{f, []api.Pattern{three, {Prime: 2}}, false}, {f, []api.Pattern{three, {Prime: 4, Degrees: []int{5}}}, false}, {f, []api.Pattern{three, {Prime: 19, Degrees: []int{1, 1, 3}}}, false},
		{f, []api.Pattern{{Prime: -3, Degrees: []int{5}}}, false}, {f, []api.Pattern{{Prime: 0, Degrees: []int{5}}}, false}, {f, []api.Pattern{{Prime: 3, Degrees: []int{5, 0}}}, false},
		{f, []api.Pattern{{Prime: 3, Degrees: []int{0, 5}}}, false}, {f, []api.Pattern{{Prime: 3, Degrees: []int{-1, 6}}}, false}, {f, []api.Pattern{{Prime: 3, Degrees: []int{1 << 40}}}, false},
		{of(1, 2), nil, true}, {of(1, 2), []api.Pattern{{Prime: 3, Degrees: []int{1}}}, true}, {of(1, 2), []api.Pattern{{Prime: 2, Degrees: []int{1}}}, false}, {of(5), nil, false}, {of(5), []api.Pattern{{Prime: 3}}, false},
		{of(-1, 0, 1), []api.Pattern{{Prime: 3, Degrees: []int{1, 1}}}, false}, {of(1, 0, 1), []api.Pattern{{Prime: 3, Degrees: []int{2}}}, true}, {of(1, 0, 1), nil, false}, {zpoly.Scale(f, bigint.Of(-7)), []api.Pattern{three}, true},
		{g, []api.Pattern{{Prime: 5, Degrees: []int{1, 3}}, {Prime: 7, Degrees: []int{2, 2}}}, false},
	} {
		if got := factor.Check(c.f, c.l); got != c.want {
			t.Error(zpoly.Format(c.f), c.l, got)
		}
	}
	// Degrees 1 and 3, and 2 and 2, have no sum in common, but only together.
	var pairs []api.Pattern
	for p := 2; p < 100; p++ {
		if degrees, e := factor.Degrees(g, p); e == api.OK && len(degrees) == 2 {
			pairs = append(pairs, api.Pattern{Prime: p, Degrees: degrees})
		}
	}
	alone := slices.ContainsFunc(pairs, func(x api.Pattern) bool { return factor.Check(g, []api.Pattern{x}) })
	if !factor.Check(g, pairs) || alone {
		t.Error(pairs, alone)
	}
}

func TestConsequences(t *testing.T) { // P7.5
	r := rand.New(rand.NewSource(8))
	for range 200 {
		f, g := smallPoly(r, 1+r.Intn(8), 1000), smallPoly(r, 1+r.Intn(8), 9)
		h := zpoly.Mul(f, g)
		limit, _ := factor.Bound(h)
		for _, c := range slices.Concat(f, g) {
			if bigint.Cmp(bigint.Abs(c), limit) > 0 {
				t.Fatal("bound", h)
			}
		}
		count := map[string]int{}
		for _, x := range slices.Concat(checkFactors(t, f), checkFactors(t, g)) {
			count[text(x.Poly)] += x.Exp
		}
		var parts []int
		for _, x := range checkFactors(t, h) {
			if count[text(x.Poly)] != x.Exp {
				t.Fatal("product", zpoly.Format(h))
			}
			own, _ := factor.Degrees(x.Poly, 101)
			parts = append(parts, own...)
		}
		slices.Sort(parts)
		if degrees, e := factor.Degrees(h, 101); e == api.OK && !slices.Equal(degrees, parts) {
			t.Fatal("factors modulo 101", zpoly.Format(h), degrees, parts)
		}
	}
}

func TestMemory(t *testing.T) { // R3, R4
	f := unusual(product(of(6), of(-1, 2), binomial(2, 1), binomial(2, 1), rootsOfSquares(2, 3), of(0, 1)))
	g := unusual(rootsOfSquares(2, 3))
	before := text(f, g)
	results := func() []api.ZPoly {
		c, l, _ := factor.Factor(f)
		b, _ := factor.Bound(f)
		all := []api.ZPoly{{c}, {b}}
		for _, x := range l {
			all = append(all, x.Poly)
		}
		for _, k := range []int{1, 2, 9} {
			lifted, _ := factor.Lift(g, 7, k)
			single, _ := factor.Lift(binomial(2, 1), 3, k)
			all = append(append(all, lifted...), single...)
		}
		_, l, _ = factor.Factor(g)
		roots, _ := factor.Roots(f)
		for _, a := range roots {
			all = append(all, api.ZPoly{a.Num}, api.ZPoly{a.Den})
		}
		return append(all, l[0].Poly)
	}
	first, second := results(), results()
	if len(first) < 20 {
		t.Fatal(len(first))
	}
	for i, h := range first {
		overwrite(h)
		for j := i + 1; j < len(first); j++ {
			if text(first[j]) != text(second[j]) {
				t.Fatal("shared memory", i, j)
			}
		}
	}
	if text(f, g) != before {
		t.Fatal("an argument was changed")
	}
	if text(results()...) != text(second...) {
		t.Fatal("results depend on earlier calls")
	}
	patterns, _ := factor.Prove(parse(t, "x^5 - x - 1"))
	kept := slices.Clone(patterns[1].Degrees)
	for i := range patterns[0].Degrees[:cap(patterns[0].Degrees)] {
		patterns[0].Degrees[:cap(patterns[0].Degrees)][i] = 99
	}
	if !slices.Equal(patterns[1].Degrees, kept) || !factor.Check(parse(t, "x^5 - x - 1"), patterns[1:]) {
		t.Fatal("patterns share memory")
	}
}
