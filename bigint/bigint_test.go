package bigint_test

import (
	"math"
	"math/big"
	"math/rand"
	"slices"
	"strings"
	"testing"

	"halfplane/api"
	"halfplane/bigint"
)

// toBig reads an integer as its digits denote it.
func toBig(a api.Int) *big.Int {
	z := new(big.Int)
	for _, d := range slices.Backward(a.Mag) {
		z.Lsh(z, 32).Or(z, big.NewInt(int64(d)))
	}
	if a.Neg {
		z.Neg(z)
	}
	return z
}

// checkInt reports an integer that is not normalized or not the one expected.
func checkInt(t *testing.T, what string, got api.Int, want *big.Int) {
	t.Helper()
	if n := len(got.Mag); n > 0 && got.Mag[n-1] == 0 || n == 0 && got.Neg {
		t.Fatalf("%s is not normalized: %v", what, got)
	}
	if toBig(got).Cmp(want) != 0 {
		t.Fatalf("%s = %v, want %v", what, toBig(got), want)
	}
}

// randomInt returns an integer of up to n digits, with digits that lead to
// carries, and sometimes with leading zeros or a minus sign of zero.
func randomInt(r *rand.Rand, n int) api.Int {
	mag := make([]uint32, r.Intn(n+1))
	for i := range mag {
		switch r.Intn(4) {
		case 0:
			mag[i] = 0
		case 1:
			mag[i] = math.MaxUint32
		case 2:
			mag[i] = uint32(r.Intn(3))
		default:
			mag[i] = r.Uint32()
		}
	}
	return api.Int{Neg: r.Intn(2) == 0, Mag: mag}
}

// number parses a decimal number.
func number(t *testing.T, s string) api.Int {
	t.Helper()
	a, e := bigint.Parse(s)
	if e != api.OK {
		t.Fatalf("Parse(%q): %d", s, e)
	}
	return a
}

// same reports whether the fields of two normalized integers are equal.
func same(a, b api.Int) bool {
	return a.Neg == b.Neg && slices.Equal(a.Mag, b.Mag)
}

var minusZero = api.Int{Neg: true, Mag: []uint32{0, 0}}

func TestConversions(t *testing.T) { // P1.1
	for _, n := range []int{0, 1, -1, 7, 1<<32 - 1, 1 << 32, -1 << 32, math.MaxInt64, math.MinInt64} {
		a := bigint.Of(n)
		checkInt(t, "Of", a, big.NewInt(int64(n)))
		if m, ok := bigint.Small(a); m != n || !ok {
			t.Error(n, m, ok)
		}
	}
	for _, s := range []string{"9223372036854775808", "-9223372036854775809", "18446744073709551616", "-100000000000000000000000"} {
		if m, ok := bigint.Small(number(t, s)); m != 0 || ok {
			t.Error(s, m, ok)
		}
	}
	if m, ok := bigint.Small(api.Int{Neg: true, Mag: []uint32{5, 0, 0, 0}}); m != -5 || !ok {
		t.Error(m, ok)
	}
	if m, ok := bigint.Small(minusZero); m != 0 || !ok {
		t.Error(m, ok)
	}
	checkInt(t, "Normal(-0)", bigint.Normal(minusZero), new(big.Int))
	if bigint.Sign(minusZero) != 0 || bigint.Bits(minusZero) != 0 || bigint.Cmp(minusZero, api.Int{}) != 0 {
		t.Error("minus zero")
	}
	if bigint.Bits(api.Int{Neg: true, Mag: []uint32{0, 1, 0}}) != 33 || bigint.Bits(bigint.Of(255)) != 8 {
		t.Error("Bits")
	}
	r := rand.New(rand.NewSource(1))
	for range 2000 {
		a, b := randomInt(r, 4), randomInt(r, 4)
		x, y := toBig(a), toBig(b)
		checkInt(t, "Normal", bigint.Normal(a), x)
		if bigint.Sign(a) != x.Sign() || bigint.Cmp(a, b) != x.Cmp(y) || bigint.Cmp(a, a) != 0 || bigint.Bits(a) != x.BitLen() {
			t.Fatal(a, b)
		}
		m, ok := bigint.Small(a)
		if ok != x.IsInt64() || ok && int64(m) != x.Int64() || !ok && m != 0 {
			t.Fatal(a, m, ok)
		}
	}
}

func TestRing(t *testing.T) { // P1.2
	r := rand.New(rand.NewSource(2))
	for i := range 4000 {
		a, b := randomInt(r, 1+i%12), randomInt(r, 1+i%7)
		if i%5 == 0 {
			b = bigint.Neg(a)
		}
		x, y := toBig(a), toBig(b)
		checkInt(t, "Neg", bigint.Neg(a), new(big.Int).Neg(x))
		checkInt(t, "Abs", bigint.Abs(a), new(big.Int).Abs(x))
		checkInt(t, "Add", bigint.Add(a, b), new(big.Int).Add(x, y))
		checkInt(t, "Sub", bigint.Sub(a, b), new(big.Int).Sub(x, y))
		checkInt(t, "Mul", bigint.Mul(a, b), new(big.Int).Mul(x, y))
	}
}

func TestLongProducts(t *testing.T) { // P1.2
	r := rand.New(rand.NewSource(3))
	for _, n := range []int{47, 48, 49, 95, 96, 97, 150, 400, 1000} {
		for range 20 {
			a, b, c := randomInt(r, n), randomInt(r, n), randomInt(r, 3*n)
			checkInt(t, "Mul", bigint.Mul(a, b), new(big.Int).Mul(toBig(a), toBig(b)))
			checkInt(t, "Mul", bigint.Mul(a, c), new(big.Int).Mul(toBig(a), toBig(c)))
		}
		ones := api.Int{Mag: slices.Repeat([]uint32{math.MaxUint32}, n)}
		checkInt(t, "Mul", bigint.Mul(ones, ones), new(big.Int).Mul(toBig(ones), toBig(ones)))
		sparse := bigint.Normal(ones)
		clear(sparse.Mag[1 : n-1])
		checkInt(t, "Mul", bigint.Mul(ones, sparse), new(big.Int).Mul(toBig(ones), toBig(sparse)))
	}
}

func TestDivision(t *testing.T) { // P1.3
	r := rand.New(rand.NewSource(4))
	for i := range 20000 {
		a, b := randomInt(r, 1+i%9), randomInt(r, 1+i%5)
		x, y := toBig(a), toBig(b)
		q, rest, e := bigint.DivMod(a, b)
		exact, f := bigint.Exact(a, b)
		if y.Sign() == 0 {
			if e != api.ErrZero || f != api.ErrZero || !same(q, api.Int{}) || !same(rest, api.Int{}) || !same(exact, api.Int{}) {
				t.Fatal(a, b, e, f)
			}
			continue
		}
		wantQ, wantR := new(big.Int).DivMod(x, y, new(big.Int))
		if e != api.OK {
			t.Fatal(a, b, e)
		}
		checkInt(t, "quotient", q, wantQ)
		checkInt(t, "remainder", rest, wantR)
		if (wantR.Sign() == 0) != (f == api.OK) || f != api.OK && (f != api.ErrInexact || !same(exact, api.Int{})) {
			t.Fatal(a, b, f)
		}
		exact, f = bigint.Exact(bigint.Mul(a, b), b)
		if f != api.OK {
			t.Fatal(a, b, f)
		}
		checkInt(t, "Exact", exact, x)
	}
	for _, c := range [][4]int{{7, -2, -3, 1}, {-7, 2, -4, 1}, {-7, -2, 4, 1}, {-6, 3, -2, 0}, {0, 5, 0, 0}, {-1, 5, -1, 4}} {
		q, rest, e := bigint.DivMod(bigint.Of(c[0]), bigint.Of(c[1]))
		if !same(q, bigint.Of(c[2])) || !same(rest, bigint.Of(c[3])) || e != api.OK {
			t.Error(c, q, rest, e)
		}
	}
}

// TestDivisionCorrections divides numbers for which the estimate of a digit is too great.
func TestDivisionCorrections(t *testing.T) { // P1.3
	const m = math.MaxUint32
	const h = 1 << 31
	for _, c := range [][2][]uint32{
		{{0, 0, h, h - 1}, {1, 0, h}},
		{{3, 0, h}, {1, 0, h / 4}},
		{{m, m, m, m}, {m, m}},
		{{0, 0, 0, h}, {m, h}},
		{{0, m - 1, h}, {m, h}},
		{{0, 0, 1, 0, h}, {1, 0, h}},
		{{0, m, m - 1, m}, {m, m, m}},
	} {
		a, b := api.Int{Mag: c[0]}, api.Int{Mag: c[1]}
		q, rest, e := bigint.DivMod(a, b)
		wantQ, wantR := new(big.Int).DivMod(toBig(a), toBig(b), new(big.Int))
		if e != api.OK {
			t.Error(c, e)
		}
		checkInt(t, "quotient", q, wantQ)
		checkInt(t, "remainder", rest, wantR)
	}
}

// TestLongDivision divides numbers that are so long that the division is split.
func TestLongDivision(t *testing.T) { // P1.3
	r := rand.New(rand.NewSource(40))
	ones := func(n int) api.Int {
		return api.Int{Neg: r.Intn(2) == 0, Mag: slices.Repeat([]uint32{math.MaxUint32}, n)}
	}
	long := func(n int) api.Int {
		a := randomInt(r, n)
		a.Mag = append(a.Mag, slices.Repeat([]uint32{r.Uint32()}, n-len(a.Mag))...)
		switch r.Intn(4) {
		case 0:
			return ones(n)
		case 1:
			clear(a.Mag[:n-1])
			return bigint.Sub(a, bigint.Of(r.Intn(3)))
		}
		a.Mag[n-1] |= 1
		return a
	}
	for i := range 800 {
		b := long(2 + r.Intn(400))
		q := long(1 + r.Intn(400))
		rest := long(1 + r.Intn(400))
		a := bigint.Mul(q, b)
		if i%4 != 0 {
			a = bigint.Add(a, rest)
		}
		checkDivision(t, a, b)
		checkDivision(t, bigint.Sub(a, bigint.Of(1)), b)
	}
	for _, n := range [][2]int{{5000, 1000}, {5000, 101}, {5000, 99}, {5000, 4890}, {3001, 2}, {4000, 2000}} {
		checkDivision(t, ones(n[0]), ones(n[1]))
		checkDivision(t, long(n[0]), long(n[1]))
	}
}

func checkDivision(t *testing.T, a, b api.Int) {
	t.Helper()
	if bigint.Sign(b) == 0 {
		return
	}
	before := slices.Clone(a.Mag)
	q, rest, e := bigint.DivMod(a, b)
	wantQ, wantR := new(big.Int).DivMod(toBig(a), toBig(b), new(big.Int))
	if e != api.OK || !slices.Equal(a.Mag, before) {
		t.Fatal(a, b, e)
	}
	checkInt(t, "quotient", q, wantQ)
	checkInt(t, "remainder", rest, wantR)
	if exact, e := bigint.Exact(a, b); (e == api.OK) != (wantR.Sign() == 0) || e == api.OK && !same(exact, q) {
		t.Fatal(a, b, e)
	}
}

func TestDivisors(t *testing.T) { // P1.4
	r := rand.New(rand.NewSource(5))
	for i := range 6000 {
		common := randomInt(r, 1+i%6)
		a, b := bigint.Mul(randomInt(r, 1+i%11), common), bigint.Mul(randomInt(r, 1+i%13), common)
		if i%7 == 0 {
			b = bigint.Add(a, randomInt(r, 1))
		}
		checkXgcd(t, a, b)
	}
	for _, c := range [][5]int{{6, 4, 2, 1, -1}, {-6, 4, 2, 1, 2}, {-5, 0, 5, -1, 0}, {0, -3, 3, 0, -1}, {0, 0, 0, 0, 0}, {5, 0, 5, 1, 0}, {7, -1, 1, 0, -1}, {4, 4, 4, 0, 1}} {
		g, u, v := bigint.Xgcd(bigint.Of(c[0]), bigint.Of(c[1]))
		if !same(g, bigint.Of(c[2])) || !same(u, bigint.Of(c[3])) || !same(v, bigint.Of(c[4])) {
			t.Error(c, g, u, v)
		}
	}
	checkXgcd(t, minusZero, minusZero)
	checkXgcd(t, api.Int{Mag: []uint32{6, 0}}, minusZero)
	// Neighbouring Fibonacci numbers need the most divisions.
	f, g := bigint.Of(1), bigint.Of(1)
	for range 3000 {
		f, g = g, bigint.Add(f, g)
	}
	checkXgcd(t, f, g)
	checkXgcd(t, bigint.Neg(g), f)
}

func checkXgcd(t *testing.T, a, b api.Int) {
	t.Helper()
	x, y := toBig(a), toBig(b)
	want := new(big.Int).GCD(nil, nil, new(big.Int).Abs(x), new(big.Int).Abs(y))
	checkInt(t, "Gcd", bigint.Gcd(a, b), want)
	g, u, v := bigint.Xgcd(a, b)
	checkInt(t, "g", g, want)
	total := new(big.Int).Add(new(big.Int).Mul(toBig(u), x), new(big.Int).Mul(toBig(v), y))
	if total.Cmp(want) != 0 {
		t.Fatal(a, b, g, u, v)
	}
	if y.Sign() == 0 {
		checkInt(t, "u", u, big.NewInt(int64(x.Sign())))
		checkInt(t, "v", v, new(big.Int))
		return
	}
	if period := new(big.Int).Quo(new(big.Int).Abs(y), want); u.Neg || toBig(u).Cmp(period) >= 0 {
		t.Fatal(a, b, g, u, v)
	}
}

func TestPow(t *testing.T) { // P1.5
	r := rand.New(rand.NewSource(6))
	for i := range 500 {
		a, n := randomInt(r, 3), i%20
		p, e := bigint.Pow(a, n)
		if e != api.OK {
			t.Fatal(a, n, e)
		}
		checkInt(t, "Pow", p, new(big.Int).Exp(toBig(a), big.NewInt(int64(n)), nil))
	}
	for _, c := range []struct {
		a, n, want int
		e          api.Errno
	}{
		{2, -1, 0, api.ErrRange}, {0, -1, 0, api.ErrRange}, {2, math.MinInt64, 0, api.ErrRange},
		{0, 0, 1, api.OK}, {0, math.MaxInt64, 0, api.OK}, {1, math.MaxInt64, 1, api.OK},
		{-1, math.MaxInt64, -1, api.OK}, {-1, math.MaxInt64 - 1, 1, api.OK},
		{2, 1<<19 + 1, 0, api.ErrLarge}, {3, 1<<19 + 1, 0, api.ErrLarge}, {-2, math.MaxInt64, 0, api.ErrLarge},
		{4, 349526, 0, api.ErrLarge}, {math.MinInt64, 1 << 62, 0, api.ErrLarge}, {-3, 3, -27, api.OK},
	} {
		if p, e := bigint.Pow(bigint.Of(c.a), c.n); e != c.e || !same(p, bigint.Of(c.want)) {
			t.Error(c, p, e)
		}
	}
	for a, n := range map[int]int{2: 1 << 19, 4: 349525, -3: 1 << 19} {
		p, e := bigint.Pow(bigint.Of(a), n)
		if e != api.OK {
			t.Error(a, n, e)
		}
		checkInt(t, "Pow", p, new(big.Int).Exp(big.NewInt(int64(a)), big.NewInt(int64(n)), nil))
	}
	long := api.Int{Mag: append(make([]uint32, api.MaxBits/32), 1)}
	if _, e := bigint.Pow(long, 1); e != api.ErrLarge {
		t.Error(e)
	}
	if p, e := bigint.Pow(long, 0); e != api.OK || !same(p, bigint.Of(1)) {
		t.Error(p, e)
	}
}

func TestPowMod(t *testing.T) { // P1.5
	r := rand.New(rand.NewSource(7))
	for i := range 2000 {
		a, n, m := randomInt(r, 4), randomInt(r, 2), randomInt(r, 1+i%4)
		p, e := bigint.PowMod(a, n, m)
		switch x, y, z := toBig(a), toBig(n), toBig(m); {
		case z.Sign() == 0:
			if e != api.ErrZero || !same(p, api.Int{}) {
				t.Fatal(a, n, m, e)
			}
		case y.Sign() < 0:
			if e != api.ErrRange || !same(p, api.Int{}) {
				t.Fatal(a, n, m, e)
			}
		default:
			if e != api.OK {
				t.Fatal(a, n, m, e)
			}
			z.Abs(z)
			checkInt(t, "PowMod", p, new(big.Int).Exp(x.Mod(x, z), y, z))
		}
	}
	for _, c := range [][4]int{{2, 10, -7, 2}, {-2, 3, 7, 6}, {0, 0, 5, 1}, {0, 0, 1, 0}, {5, 0, -1, 0}, {5, 100, 1, 0}} {
		if p, e := bigint.PowMod(bigint.Of(c[0]), bigint.Of(c[1]), bigint.Of(c[2])); e != api.OK || !same(p, bigint.Of(c[3])) {
			t.Error(c, p, e)
		}
	}
	if p, e := bigint.PowMod(bigint.Of(3), minusZero, bigint.Of(5)); e != api.OK || !same(p, bigint.Of(1)) {
		t.Error(p, e)
	}
}

func TestSqrt(t *testing.T) { // P1.6
	r := rand.New(rand.NewSource(8))
	for i := range 4000 {
		a := bigint.Abs(randomInt(r, 1+i%9))
		if i%3 > 0 {
			a = bigint.Abs(bigint.Add(bigint.Mul(a, a), bigint.Of(i%3-2)))
		}
		root, square, e := bigint.Sqrt(a)
		want := new(big.Int).Sqrt(toBig(a))
		if e != api.OK || square != (new(big.Int).Mul(want, want).Cmp(toBig(a)) == 0) {
			t.Fatal(a, square, e)
		}
		checkInt(t, "Sqrt", root, want)
	}
	for n := range 3000 {
		root, square, _ := bigint.Sqrt(bigint.Of(n))
		want := int(math.Sqrt(float64(n)))
		if !same(root, bigint.Of(want)) || square != (want*want == n) {
			t.Error(n, root, square)
		}
	}
	if root, square, e := bigint.Sqrt(bigint.Of(-1)); e != api.ErrRange || square || !same(root, api.Int{}) {
		t.Error(root, square, e)
	}
	if root, square, e := bigint.Sqrt(minusZero); e != api.OK || !square || !same(root, api.Int{}) {
		t.Error(root, square, e)
	}
}

func TestText(t *testing.T) { // P1.7
	r := rand.New(rand.NewSource(9))
	for i := range 1500 {
		a := randomInt(r, 1+i%80)
		s := toBig(a).String()
		if f := bigint.Format(a); f != s {
			t.Fatalf("Format = %s, want %s", f, s)
		}
		p, e := bigint.Parse(s)
		if e != api.OK {
			t.Fatal(s, e)
		}
		checkInt(t, "Parse", p, toBig(a))
	}
	for _, n := range []int{1, 8, 9, 10, 18, 19, 287, 288, 289, 500, 20000} {
		for _, s := range []string{strings.Repeat("9", n), "1" + strings.Repeat("0", n), "-" + strings.Repeat("5", n)} {
			if f := bigint.Format(number(t, s)); f != s {
				t.Fatal(n, len(f))
			}
		}
	}
	for _, s := range []string{"", "-", "-0", "+1", "007", "1 ", " 1", "00", "-01", "--1", "1-", "0x1", "1_0", "1.", "12a", "a", "/", ":", "\x00", "１", "123456789:123456789"} {
		if a, e := bigint.Parse(s); e != api.ErrSyntax || !same(a, api.Int{}) {
			t.Errorf("Parse(%q) = %v, %d", s, a, e)
		}
	}
	for s, n := range map[string]int{"0": 0, "-1": -1, "10": 10, "-9223372036854775808": math.MinInt64} {
		if a, e := bigint.Parse(s); e != api.OK || !same(a, bigint.Of(n)) || bigint.Format(a) != s {
			t.Error(s, a, e)
		}
	}
	if s := bigint.Format(api.Int{Neg: true, Mag: []uint32{0, 1, 0}}); s != "-4294967296" {
		t.Error(s)
	}
	if s := bigint.Format(minusZero); s != "0" {
		t.Error(s)
	}
}

// TestMemory changes every result and looks whether an argument, or a later result, changes with it.
func TestMemory(t *testing.T) { // R3, R4
	one := func(a api.Int) []api.Int { return []api.Int{a} }
	calls := map[string]func(a, b api.Int) []api.Int{
		"Normal": func(a, b api.Int) []api.Int { return one(bigint.Normal(a)) },
		"Neg":    func(a, b api.Int) []api.Int { return one(bigint.Neg(a)) },
		"Abs":    func(a, b api.Int) []api.Int { return one(bigint.Abs(a)) },
		"Add":    func(a, b api.Int) []api.Int { return one(bigint.Add(a, b)) },
		"Sub":    func(a, b api.Int) []api.Int { return one(bigint.Sub(a, b)) },
		"Mul":    func(a, b api.Int) []api.Int { return one(bigint.Mul(a, b)) },
		"DivMod": func(a, b api.Int) []api.Int {
			q, r, _ := bigint.DivMod(a, b)
			return []api.Int{q, r}
		},
		"Exact": func(a, b api.Int) []api.Int {
			q, _ := bigint.Exact(a, b)
			return one(q)
		},
		"Gcd": func(a, b api.Int) []api.Int { return one(bigint.Gcd(a, b)) },
		"Xgcd": func(a, b api.Int) []api.Int {
			g, u, v := bigint.Xgcd(a, b)
			return []api.Int{g, u, v}
		},
		"Pow": func(a, b api.Int) []api.Int {
			p, _ := bigint.Pow(a, 1)
			return one(p)
		},
		"PowMod": func(a, b api.Int) []api.Int {
			p, _ := bigint.PowMod(a, bigint.Of(1), b)
			return one(p)
		},
		"Sqrt": func(a, b api.Int) []api.Int {
			s, _, _ := bigint.Sqrt(a)
			return one(s)
		},
	}
	arguments := []api.Int{{}, bigint.Of(1), bigint.Of(-6), bigint.Of(1 << 40), {Neg: true, Mag: []uint32{1, 2, 3, 4, 5, 0}}, {Mag: []uint32{0, 0, 7}}}
	for name, call := range calls {
		for _, x := range arguments {
			for _, y := range arguments {
				a, b := api.Int{Neg: x.Neg, Mag: slices.Clone(x.Mag)}, api.Int{Neg: y.Neg, Mag: slices.Clone(y.Mag)}
				got, want := call(a, b), call(x, y)
				for i := range got {
					if !same(got[i], want[i]) {
						t.Fatal(name, x, y, "earlier results changed")
					}
					whole := got[i].Mag[:cap(got[i].Mag)]
					for j := range whole {
						whole[j] = 0xdeadbeef
					}
				}
				if !same(a, x) || !same(b, y) || !slices.EqualFunc(call(x, y), want, same) {
					t.Error(name, x, y, "shared memory")
				}
			}
		}
	}
}

func TestHugeNumbers(t *testing.T) { // P1
	a, e := bigint.Pow(bigint.Of(3), 1<<18)
	if e != api.OK {
		t.Fatal(e)
	}
	b, _ := bigint.Pow(bigint.Of(7), 1<<17)
	checkInt(t, "a", a, new(big.Int).Exp(big.NewInt(3), big.NewInt(1<<18), nil))
	s := bigint.Format(a)
	if !same(number(t, s), a) || s != toBig(a).String() {
		t.Error("text")
	}
	if g := bigint.Gcd(bigint.Mul(a, bigint.Of(35)), bigint.Mul(b, bigint.Of(15))); !same(g, bigint.Of(15*7)) {
		t.Error("Gcd", bigint.Bits(g))
	}
	q, r, _ := bigint.DivMod(bigint.Add(bigint.Mul(a, b), bigint.Of(5)), b)
	if !same(q, a) || !same(r, bigint.Of(5)) {
		t.Error("DivMod")
	}
	root, square, _ := bigint.Sqrt(a)
	if half, _ := bigint.Pow(bigint.Of(3), 1<<17); !square || !same(root, half) {
		t.Error("Sqrt")
	}
}
