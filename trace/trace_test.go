package trace_test

import (
	"math"
	"math/big"
	"math/rand"
	"testing"

	"halfplane/api"
	"halfplane/supersingular"
	"halfplane/trace"
)

// partsOf follows the definitions.
func partsOf(s api.Spec, n int) [4]*big.Rat {
	return [4]*big.Rat{mainOf(s, n), ellipticOf(s, n), hyperbolicOf(s, n), weight2Of(s, n)}
}

func mainOf(s api.Spec, n int) *big.Rat {
	for m := 1; m <= n; m++ {
		if m*m == n {
			x := new(big.Rat).SetInt(power(m, s.Weight-2))
			return x.Mul(x, quotient(symbol(s.Disc, m)*(s.Weight-1)*psi(s.Level), 12))
		}
	}
	return new(big.Rat)
}

func ellipticOf(s api.Spec, n int) *big.Rat {
	sum := new(big.Rat)
	for t := -2 * n; t <= 2*n; t++ {
		d := t*t - 4*n
		if d >= 0 {
			continue
		}
		for e := 1; e*e <= -d; e++ {
			disc := d / (e * e)
			if d%(e*e) != 0 || disc%4 != 0 && disc%4 != -3 {
				continue
			}
			h := quotient(classNumber(disc), max(1, map[int]int{-3: 3, -4: 2}[disc]))
			h.Mul(h, quotient(rootsOf(s, n, t, e), 1))
			sum.Add(sum, h.Mul(h, new(big.Rat).SetInt(coefficientOf(s.Weight-2, t, n))))
		}
	}
	return sum.Mul(sum, quotient(1, 2))
}

// coefficientOf returns the coefficient of X^i in 1/(1 - t X + n X^2), which is the sum of
// (-1)^j binomial(i - j, j) n^j t^(i - 2 j).
func coefficientOf(i, t, n int) *big.Int {
	sum := new(big.Int)
	for j := 0; 2*j <= i; j++ {
		x := new(big.Int).Binomial(int64(i-j), int64(j))
		x.Mul(x, power(-n, j))
		sum.Add(sum, x.Mul(x, power(t, i-2*j)))
	}
	return sum
}

func rootsOf(s api.Spec, n, t, e int) int {
	g := gcd(s.Level, e)
	seen := map[int]bool{}
	sum := 0
	for b := 1; b <= s.Level*g; b++ {
		a := (b-1)%s.Level + 1
		if gcd(a, s.Level) == 1 && (b*b-t*b+n)%(s.Level*g) == 0 && !seen[a] {
			seen[a] = true
			sum += symbol(s.Disc, a)
		}
	}
	return psi(s.Level) * sum / psi(s.Level/g)
}

func hyperbolicOf(s api.Spec, n int) *big.Rat {
	sum := new(big.Int)
	for _, d := range divisors(n) {
		for _, c := range divisors(s.Level) {
			g := gcd(c, s.Level/c)
			if s.Level/max(s.Disc, -s.Disc)%g != 0 || (n/d-d)%g != 0 {
				continue
			}
			y := 1
			for gcd(y, s.Level) != 1 || (y-d)%c != 0 || (y-n/d)%(s.Level/c) != 0 {
				y++
			}
			x := power(min(d, n/d), s.Weight-1)
			sum.Add(sum, x.Mul(x, big.NewInt(int64(units(g)*symbol(s.Disc, y)))))
		}
	}
	return new(big.Rat).SetFrac(sum, big.NewInt(2))
}

func weight2Of(s api.Spec, n int) *big.Rat {
	sum := 0
	if s.Weight == 2 && s.Disc == 1 {
		for _, d := range divisors(n) {
			sum += d
		}
	}
	return quotient(sum, 1)
}

// checkParts compares the terms and the trace with what the definitions say.
func checkParts(t *testing.T, s api.Spec, n int) {
	t.Helper()
	p, e := trace.Parts(s, n)
	if e != api.OK {
		t.Fatal(s, n, e)
	}
	want := partsOf(s, n)
	for i, x := range []api.Rat{p.Main, p.Elliptic, p.Hyperbolic, p.Weight2} {
		if toRat(t, x).Cmp(want[i]) != 0 {
			t.Fatal(s, n, i, toRat(t, x), want[i])
		}
	}
	sum := new(big.Rat).Sub(want[0], want[1])
	sum.Sub(sum, want[2]).Add(sum, want[3])
	if !sum.IsInt() || sum.Num().Cmp(traceOf(t, s, n)) != 0 {
		t.Fatal(s, n, sum)
	}
}

func TestParts(t *testing.T) { // P32.1
	r := rand.New(rand.NewSource(1))
	l := specs()
	for range 400 {
		s := l[r.Intn(len(l))]
		n := 1 + r.Intn(api.MaxHecke)
		if r.Intn(5) == 0 {
			n = (1 + r.Intn(11)) * (1 + r.Intn(11))
		}
		if gcd(n, s.Level) == 1 {
			checkParts(t, s, n)
		}
	}
	for _, s := range []api.Spec{{Level: 1, Weight: 24, Disc: 1}, {Level: 1, Weight: 2, Disc: 1}, {Level: 3, Weight: 23, Disc: -3}, {Level: 119, Weight: 2, Disc: 17}, {Level: 81, Weight: 3, Disc: -3}, {Level: 63, Weight: 4, Disc: 21}} {
		for _, n := range []int{1, 2, 4, 64, 100, 121, 127, 128} {
			if gcd(n, s.Level) == 1 {
				checkParts(t, s, n)
			}
		}
	}
}

func TestExamples(t *testing.T) { // P32.1
	for _, c := range []struct {
		s     api.Spec
		n     int
		parts [4]*big.Rat
		want  int64
	}{
		{api.Spec{Level: 11, Weight: 2, Disc: 1}, 2, [4]*big.Rat{quotient(0, 1), quotient(3, 1), quotient(2, 1), quotient(3, 1)}, -2},
		{api.Spec{Level: 2, Weight: 2, Disc: 1}, 3, [4]*big.Rat{quotient(0, 1), quotient(2, 1), quotient(2, 1), quotient(4, 1)}, 0},
		{api.Spec{Level: 1, Weight: 2, Disc: 1}, 1, [4]*big.Rat{quotient(1, 12), quotient(7, 12), quotient(1, 2), quotient(1, 1)}, 0},
		{api.Spec{Level: 23, Weight: 3, Disc: -23}, 1, [4]*big.Rat{quotient(4, 1), quotient(0, 1), quotient(1, 1), quotient(0, 1)}, 3},
	} {
		p, e := trace.Parts(c.s, c.n)
		if e != api.OK {
			t.Fatal(c, e)
		}
		for i, x := range []api.Rat{p.Main, p.Elliptic, p.Hyperbolic, p.Weight2} {
			if toRat(t, x).Cmp(c.parts[i]) != 0 {
				t.Error(c, i, toRat(t, x))
			}
		}
		if x := traceOf(t, c.s, c.n); x.Cmp(big.NewInt(c.want)) != 0 {
			t.Error(c, x)
		}
	}
}

func TestErrors(t *testing.T) { // P32.1
	fine := api.Spec{Level: 6, Weight: 4, Disc: 1}
	for _, c := range []struct {
		s    api.Spec
		n    int
		want api.Errno
	}{
		{api.Spec{}, 1, api.ErrRange}, {api.Spec{Level: 121, Weight: 2, Disc: 1}, 2, api.ErrRange}, {api.Spec{Level: 1, Weight: 2}, 0, api.ErrDisc}, {api.Spec{Level: 5, Weight: 2, Disc: -4}, 5, api.ErrLevel}, {api.Spec{Level: 5, Weight: 3, Disc: 5}, 0, api.ErrParity}, {api.Spec{Level: 120, Weight: 4, Disc: 1}, 2, api.ErrLarge}, {api.Spec{Level: 120, Weight: 4, Disc: 1}, 0, api.ErrLarge},
		{api.Spec{Level: math.MinInt, Weight: math.MaxInt, Disc: math.MinInt}, math.MinInt, api.ErrRange},
		{fine, 0, api.ErrRange}, {fine, -1, api.ErrRange}, {fine, -5, api.ErrRange}, {fine, 129, api.ErrRange}, {fine, 130, api.ErrRange}, {fine, math.MaxInt, api.ErrRange}, {fine, math.MinInt, api.ErrRange}, {fine, 2, api.ErrCoprime}, {fine, 3, api.ErrCoprime}, {fine, 128, api.ErrCoprime}, {fine, 15, api.ErrCoprime}, {fine, 125, api.OK}, {fine, 127, api.OK}, {fine, 1, api.OK},
		{api.Spec{Level: 1, Weight: 12, Disc: 1}, 128, api.OK}, {api.Spec{Level: 11, Weight: 2, Disc: 1}, 121, api.ErrCoprime},
	} {
		x, e := trace.Trace(c.s, c.n)
		if e != c.want || e != api.OK && (x.Neg || len(x.Mag) != 0) {
			t.Error("Trace", c, x, e)
		}
		p, e := trace.Parts(c.s, c.n)
		if e != c.want {
			t.Error("Parts", c, p, e)
		}
		if e == api.OK {
			continue
		}
		for _, x := range []api.Rat{p.Main, p.Elliptic, p.Hyperbolic, p.Weight2} {
			if len(x.Num.Mag)+len(x.Den.Mag) != 0 {
				t.Error("Parts", c, p)
			}
		}
	}
}

func TestDimension(t *testing.T) { // P32.2
	for _, s := range specs() {
		cusp, _ := dims(t, s)
		if x := traceOf(t, s, 1); !x.IsInt64() || x.Int64() != int64(cusp) {
			t.Error(s, x, cusp)
		}
	}
}

// checkMultiplicative checks the traces of a space of dimension 1.
func checkMultiplicative(t *testing.T, s api.Spec, value func(n int) *big.Int) {
	t.Helper()
	for m := 2; m <= api.MaxHecke; m++ {
		if gcd(m, s.Level) != 1 {
			continue
		}
		for n := m + 1; m*n <= api.MaxHecke; n++ {
			if gcd(n, m*s.Level) == 1 && value(m*n).Cmp(new(big.Int).Mul(value(m), value(n))) != 0 {
				t.Fatal(s, m, n)
			}
		}
		if isPrime(m) && m*m <= api.MaxHecke {
			want := new(big.Int).Mul(value(m), value(m))
			want.Sub(want, new(big.Int).Mul(power(m, s.Weight-1), big.NewInt(int64(symbol(s.Disc, m)))))
			if value(m*m).Cmp(want) != 0 {
				t.Fatal(s, m, want)
			}
		}
	}
}

func TestMultiplicative(t *testing.T) { // P32.2
	count := 0
	for _, s := range specs() {
		if cusp, _ := dims(t, s); cusp == 1 {
			checkMultiplicative(t, s, func(n int) *big.Int { return traceOf(t, s, n) })
			count++
		}
	}
	if count < 30 {
		t.Error(count)
	}
}

// beta is the factor of level M in the dimension of the new space of level n M.
func beta(n int) int {
	product := 1
	for p := 2; p <= n; p++ {
		exponent := 0
		for n%p == 0 {
			n /= p
			exponent++
		}
		switch {
		case exponent == 1:
			product *= -2
		case exponent > 2:
			return 0
		}
	}
	return product
}

// On the new space of dimension 0 traces are 0, and on one of dimension 1 they are
// multiplicative.
func TestNewSpaces(t *testing.T) { // P32.1, P32.2
	counts := map[int]int{}
	for i, s := range specs() {
		_, fresh := dims(t, s)
		if fresh > 1 || fresh == 1 && i%2 != 0 {
			continue
		}
		counts[fresh]++
		known := map[int]*big.Int{}
		value := func(n int) *big.Int {
			if x, ok := known[n]; ok {
				return x
			}
			sum := new(big.Int)
			for _, m := range divisors(s.Level) {
				if m%s.Disc == 0 {
					x := traceOf(t, api.Spec{Level: m, Weight: s.Weight, Disc: s.Disc}, n)
					sum.Add(sum, x.Mul(x, big.NewInt(int64(beta(s.Level/m)))))
				}
			}
			known[n] = sum
			return sum
		}
		if fresh == 1 {
			checkMultiplicative(t, s, value)
			continue
		}
		for n := 1; n <= api.MaxHecke; n += 1 + i%7 {
			if gcd(n, s.Level) == 1 && value(n).Sign() != 0 {
				t.Fatal(s, n, value(n))
			}
		}
	}
	if counts[0] < 100 || counts[1] < 30 {
		t.Error(counts)
	}
}

func TestBound(t *testing.T) { // P32.3
	for i, s := range specs() {
		cusp, _ := dims(t, s)
		for p := 2; p <= api.MaxHecke; p++ {
			if !isPrime(p) || s.Level%p == 0 || (p+i)%4 != 0 && p > 5 {
				continue
			}
			x := traceOf(t, s, p)
			bound := new(big.Int).Mul(power(p, s.Weight-1), big.NewInt(int64(4*cusp*cusp)))
			if x.Mul(x, x).Cmp(bound) > 0 {
				t.Fatal(s, p, x, bound)
			}
		}
	}
}

func TestLevelOne(t *testing.T) { // P32.4
	length := api.MaxHecke + 1
	delta := etaProduct(length, map[int]int{1: 24})
	if delta[2].Int64() != -24 || delta[3].Int64() != 252 {
		t.Fatal(delta)
	}
	e4, e6 := eisenstein(length, 4), eisenstein(length, 6)
	forms := map[int]series{12: delta, 16: delta.times(e4), 18: delta.times(e6), 20: delta.times(e4).times(e4), 22: delta.times(e4).times(e6)}
	for k := 2; k <= 22; k += 2 {
		for n := 1; n <= api.MaxHecke; n++ {
			want := new(big.Int)
			if f, ok := forms[k]; ok {
				want = f[n]
			}
			if x := traceOf(t, api.Spec{Level: 1, Weight: k, Disc: 1}, n); x.Cmp(want) != 0 {
				t.Error(k, n, x, want)
			}
		}
	}
	for n, want := range map[int]int64{1: 2, 2: 1080, 3: 339480} {
		if x := traceOf(t, api.Spec{Level: 1, Weight: 24, Disc: 1}, n); x.Cmp(big.NewInt(want)) != 0 {
			t.Error(n, x)
		}
	}
}

// These spaces of cusp forms consist of the multiples of an eta product.
func TestEtaProducts(t *testing.T) { // P32.1
	for s, pairs := range map[api.Spec]map[int]int{
		{Level: 2, Weight: 8, Disc: 1}: {1: 8, 2: 8}, {Level: 3, Weight: 6, Disc: 1}: {1: 6, 3: 6}, {Level: 4, Weight: 6, Disc: 1}: {2: 12}, {Level: 5, Weight: 4, Disc: 1}: {1: 4, 5: 4}, {Level: 6, Weight: 4, Disc: 1}: {1: 2, 2: 2, 3: 2, 6: 2}, {Level: 8, Weight: 4, Disc: 1}: {2: 4, 4: 4}, {Level: 9, Weight: 4, Disc: 1}: {3: 8},
		{Level: 11, Weight: 2, Disc: 1}: {1: 2, 11: 2}, {Level: 14, Weight: 2, Disc: 1}: {1: 1, 2: 1, 7: 1, 14: 1}, {Level: 15, Weight: 2, Disc: 1}: {1: 1, 3: 1, 5: 1, 15: 1}, {Level: 20, Weight: 2, Disc: 1}: {2: 2, 10: 2}, {Level: 24, Weight: 2, Disc: 1}: {2: 1, 4: 1, 6: 1, 12: 1}, {Level: 27, Weight: 2, Disc: 1}: {3: 2, 9: 2}, {Level: 32, Weight: 2, Disc: 1}: {4: 2, 8: 2}, {Level: 36, Weight: 2, Disc: 1}: {6: 4},
		{Level: 4, Weight: 5, Disc: -4}: {1: 4, 2: 2, 4: 4}, {Level: 7, Weight: 3, Disc: -7}: {1: 3, 7: 3}, {Level: 8, Weight: 3, Disc: -8}: {1: 2, 2: 1, 4: 1, 8: 2}, {Level: 12, Weight: 3, Disc: -3}: {2: 3, 6: 3}, {Level: 16, Weight: 3, Disc: -4}: {4: 6},
	} {
		if cusp, _ := dims(t, s); cusp != 1 {
			t.Fatal(s, cusp)
		}
		f := etaProduct(api.MaxHecke+1, pairs)
		for n := 1; n <= api.MaxHecke; n++ {
			if gcd(n, s.Level) != 1 {
				continue
			}
			if x := traceOf(t, s, n); x.Cmp(f[n]) != 0 {
				t.Error(s, n, x, f[n])
			}
		}
	}
}

// The graphs of the isogenies have the eigenvalues of the cusp forms of weight 2, and one
// of an Eisenstein series.
func TestSupersingular(t *testing.T) { // P32.1
	for p := 5; p <= api.MaxLevel; p++ {
		if !isPrime(p) {
			continue
		}
		for _, l := range []int{2, 3} {
			rows, e := supersingular.Graph(p, l)
			if e != api.OK {
				t.Fatal(p, l, e)
			}
			sum := 0
			for i, row := range rows {
				sum += row[i]
			}
			if x := traceOf(t, api.Spec{Level: p, Weight: 2, Disc: 1}, l); !x.IsInt64() || x.Int64() != int64(sum-l-1) {
				t.Error(p, l, x, sum)
			}
		}
	}
}

// The terms share no memory, and nothing of them is used by a later call.
func TestMemory(t *testing.T) { // R3
	s := api.Spec{Level: 1, Weight: 2, Disc: 1}
	for _, n := range []int{1, 2, 4, 127} {
		p, _ := trace.Parts(s, n)
		again, _ := trace.Parts(s, n)
		l := []api.Int{p.Main.Num, p.Main.Den, p.Elliptic.Num, p.Elliptic.Den, p.Hyperbolic.Num, p.Hyperbolic.Den, p.Weight2.Num, p.Weight2.Den}
		kept := []*big.Int{}
		for _, a := range l {
			kept = append(kept, toInt(a))
		}
		for i, a := range l {
			for j := range a.Mag[:cap(a.Mag)] {
				a.Mag[:cap(a.Mag)][j] = 77
			}
			for j := i + 1; j < len(l); j++ {
				if toInt(l[j]).Cmp(kept[j]) != 0 {
					t.Fatal(n, i, j)
				}
			}
		}
		for i, x := range []api.Rat{again.Main, again.Elliptic, again.Hyperbolic, again.Weight2} {
			if toRat(t, x).Cmp(partsOf(s, n)[i]) != 0 {
				t.Fatal(n, i)
			}
		}
	}
}
