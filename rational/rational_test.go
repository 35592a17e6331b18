package rational_test

import (
	"math"
	"math/big"
	"math/rand"
	"slices"
	"testing"

	"halfplane/api"
	"halfplane/bigint"
	"halfplane/rational"
)

// toBigInt reads an integer as its digits denote it.
func toBigInt(a api.Int) *big.Int {
	z := new(big.Int)
	for _, d := range slices.Backward(a.Mag) {
		z.Lsh(z, 32).Or(z, big.NewInt(int64(d)))
	}
	if a.Neg {
		z.Neg(z)
	}
	return z
}

// toBig reads a fraction as it is to be read, with 0 as a denominator.
func toBig(a api.Rat) *big.Rat {
	d := toBigInt(a.Den)
	if d.Sign() == 0 {
		return new(big.Rat)
	}
	return new(big.Rat).SetFrac(toBigInt(a.Num), d)
}

// normalized reports whether an integer has no leading zeros and is not a negative zero.
func normalized(a api.Int) bool {
	n := len(a.Mag)
	return n == 0 && !a.Neg || n > 0 && a.Mag[n-1] != 0
}

// check reports a fraction that is not normalized or not the one expected.
func check(t *testing.T, what string, got api.Rat, want *big.Rat) {
	t.Helper()
	if !normalized(got.Num) || !normalized(got.Den) || toBigInt(got.Num).Cmp(want.Num()) != 0 || toBigInt(got.Den).Cmp(want.Denom()) != 0 {
		t.Fatalf("%s = %v, want %v", what, got, want)
	}
}

func checkInt(t *testing.T, what string, got api.Int, want *big.Int) {
	t.Helper()
	if !normalized(got) || toBigInt(got).Cmp(want) != 0 {
		t.Fatalf("%s = %v, want %v", what, got, want)
	}
}

// randomInt returns an integer of up to n digits, sometimes with leading zeros or a minus sign of zero.
func randomInt(r *rand.Rand, n int) api.Int {
	mag := make([]uint32, r.Intn(n+1))
	for i := range mag {
		switch r.Intn(3) {
		case 0:
			mag[i] = uint32(r.Intn(7))
		case 1:
			mag[i] = math.MaxUint32
		default:
			mag[i] = r.Uint32()
		}
	}
	return api.Int{Neg: r.Intn(2) == 0, Mag: mag}
}

// randomRat returns a fraction, often not in lowest terms, and sometimes with the denominator 0.
func randomRat(r *rand.Rand, n int) api.Rat {
	c := randomInt(r, 1)
	switch r.Intn(4) {
	case 0:
		return api.Rat{Num: randomInt(r, n), Den: bigint.Of(1)}
	case 1:
		return api.Rat{Num: bigint.Of(r.Intn(9) - 4), Den: bigint.Of(r.Intn(9) - 4)}
	}
	return api.Rat{Num: bigint.Mul(c, randomInt(r, n)), Den: bigint.Mul(c, randomInt(r, n))}
}

func same(a, b api.Rat) bool {
	return sameInt(a.Num, b.Num) && sameInt(a.Den, b.Den)
}

func sameInt(a, b api.Int) bool {
	return a.Neg == b.Neg && slices.Equal(a.Mag, b.Mag)
}

// fraction returns n/d.
func fraction(n, d int) api.Rat {
	a, _ := rational.Make(bigint.Of(n), bigint.Of(d))
	return a
}

var minusZero = api.Int{Neg: true, Mag: []uint32{0, 0}}

func TestConversions(t *testing.T) { // P2.1
	for _, c := range [][4]int{{6, -4, -3, 2}, {-6, -4, 3, 2}, {0, -7, 0, 1}, {5, 1, 5, 1}, {5, -1, -5, 1}, {7, 7, 1, 1}, {math.MinInt64, 2, math.MinInt64 / 2, 1}} {
		a, e := rational.Make(bigint.Of(c[0]), bigint.Of(c[1]))
		if e != api.OK || !same(a, api.Rat{Num: bigint.Of(c[2]), Den: bigint.Of(c[3])}) {
			t.Error(c, a, e)
		}
	}
	if a, e := rational.Make(bigint.Of(6), minusZero); e != api.ErrZero || !same(a, api.Rat{}) {
		t.Error(a, e)
	}
	for _, n := range []int{0, 1, -1, 12, math.MinInt64, math.MaxInt64} {
		check(t, "Of", rational.Of(n), big.NewRat(int64(n), 1))
		check(t, "Whole", rational.Whole(bigint.Of(n)), big.NewRat(int64(n), 1))
	}
	check(t, "Whole(-0)", rational.Whole(minusZero), new(big.Rat))
	check(t, "Normal(0/0)", rational.Normal(api.Rat{}), new(big.Rat))
	check(t, "Normal(5/0)", rational.Normal(api.Rat{Num: bigint.Of(5), Den: minusZero}), new(big.Rat))
	r := rand.New(rand.NewSource(1))
	for i := range 5000 {
		a, b := randomRat(r, 1+i%4), randomRat(r, 1+i%4)
		x, y := toBig(a), toBig(b)
		check(t, "Normal", rational.Normal(a), x)
		n, ok := rational.Integer(a)
		if ok != x.IsInt() {
			t.Fatal(a, n, ok)
		}
		if ok {
			checkInt(t, "Integer", n, x.Num())
		} else {
			checkInt(t, "Integer", n, new(big.Int))
		}
		if rational.Sign(a) != x.Sign() || rational.Cmp(a, b) != x.Cmp(y) || rational.Cmp(a, rational.Normal(a)) != 0 {
			t.Fatal(a, b, rational.Sign(a), rational.Cmp(a, b))
		}
		if rational.Bits(a) != max(x.Num().BitLen(), x.Denom().BitLen()) {
			t.Fatal(a, rational.Bits(a))
		}
	}
	if rational.Bits(rational.Of(0)) != 1 || rational.Bits(fraction(3, 16)) != 5 || rational.Bits(fraction(-300, 7)) != 9 {
		t.Error("Bits")
	}
}

func TestOperations(t *testing.T) { // P2.2
	r := rand.New(rand.NewSource(2))
	for i := range 5000 {
		a, b := randomRat(r, 1+i%4), randomRat(r, 1+i%4)
		x, y := toBig(a), toBig(b)
		check(t, "Neg", rational.Neg(a), new(big.Rat).Neg(x))
		check(t, "Abs", rational.Abs(a), new(big.Rat).Abs(x))
		check(t, "Add", rational.Add(a, b), new(big.Rat).Add(x, y))
		check(t, "Sub", rational.Sub(a, b), new(big.Rat).Sub(x, y))
		check(t, "Sub", rational.Sub(a, a), new(big.Rat))
		check(t, "Mul", rational.Mul(a, b), new(big.Rat).Mul(x, y))
		q, e := rational.Quo(a, b)
		if y.Sign() == 0 {
			if e != api.ErrZero || !same(q, api.Rat{}) {
				t.Fatal(a, b, q, e)
			}
			continue
		}
		if e != api.OK {
			t.Fatal(a, b, e)
		}
		check(t, "Quo", q, new(big.Rat).Quo(x, y))
	}
}

func TestPow(t *testing.T) { // P2.3
	for _, c := range []struct{ n, d, exp, wantN, wantD int }{
		{2, 3, -2, 9, 4}, {-2, 3, -3, -27, 8}, {-2, 3, 3, -8, 27}, {5, 7, 0, 1, 1}, {0, 1, 0, 1, 1}, {0, 1, 5, 0, 1}, {0, 1, math.MaxInt64, 0, 1},
		{1, 1, math.MinInt64, 1, 1}, {-1, 1, math.MinInt64, 1, 1}, {-1, 1, math.MaxInt64, -1, 1}, {-1, 1, -math.MaxInt64, -1, 1}, {-1, 1, 6, 1, 1},
		{-5, 1, -1, -1, 5}, {1, -5, -1, -5, 1}, {4, 6, 2, 4, 9},
	} {
		p, e := rational.Pow(api.Rat{Num: bigint.Of(c.n), Den: bigint.Of(c.d)}, c.exp)
		if e != api.OK || !same(p, api.Rat{Num: bigint.Of(c.wantN), Den: bigint.Of(c.wantD)}) {
			t.Error(c, p, e)
		}
	}
	for _, c := range []struct {
		a api.Rat
		n int
		e api.Errno
	}{
		{rational.Of(0), -1, api.ErrZero}, {api.Rat{Num: bigint.Of(3)}, math.MinInt64, api.ErrZero},
		{fraction(1, 2), math.MinInt64, api.ErrLarge}, {fraction(1, 2), math.MaxInt64, api.ErrLarge},
		{fraction(1, 2), 1<<19 + 1, api.ErrLarge}, {fraction(2, 1), -1<<19 - 1, api.ErrLarge},
		{fraction(1, 5), 349526, api.ErrLarge}, {fraction(-5, 2), -349526, api.ErrLarge},
	} {
		if p, e := rational.Pow(c.a, c.n); e != c.e || !same(p, api.Rat{}) {
			t.Error(c, p, e)
		}
	}
	for _, n := range []int{1 << 19, -1 << 19} {
		p, e := rational.Pow(fraction(1, 2), n)
		if e != api.OK || max(bigint.Bits(p.Num), bigint.Bits(p.Den)) != 1<<19+1 {
			t.Error(n, e)
		}
	}
	// The bits are those in lowest terms: 2^1000/2^1001 is 1/2.
	long, _ := bigint.Pow(bigint.Of(2), 1000)
	if _, e := rational.Pow(api.Rat{Num: long, Den: bigint.Mul(long, bigint.Of(2))}, 1<<19); e != api.OK {
		t.Error(e)
	}
}

func TestRounding(t *testing.T) { // P2.4
	for _, c := range [][4]int{{-3, 2, -2, -1}, {3, 2, 1, 2}, {4, 2, 2, 2}, {-4, 2, -2, -2}, {0, 5, 0, 0}, {1, -2, -1, 0}, {7, 0, 0, 0}} {
		a := api.Rat{Num: bigint.Of(c[0]), Den: bigint.Of(c[1])}
		if !sameInt(rational.Floor(a), bigint.Of(c[2])) || !sameInt(rational.Ceil(a), bigint.Of(c[3])) {
			t.Error(c, rational.Floor(a), rational.Ceil(a))
		}
	}
	r := rand.New(rand.NewSource(4))
	for range 2000 {
		a := randomRat(r, 3)
		x := toBig(a)
		floor := new(big.Int).Div(x.Num(), x.Denom())
		checkInt(t, "Floor", rational.Floor(a), floor)
		if !x.IsInt() {
			floor.Add(floor, big.NewInt(1))
		}
		checkInt(t, "Ceil", rational.Ceil(a), floor)
	}
}

// simplest finds the simplest fraction by going through the denominators.
func simplest(lo, hi *big.Rat) *big.Rat {
	for d := int64(1); ; d++ {
		scale := big.NewRat(d, 1)
		from := new(big.Rat).Mul(lo, scale)
		to := new(big.Rat).Mul(hi, scale)
		first := new(big.Int).Div(from.Num(), from.Denom())
		first.Add(first, big.NewInt(1))
		last := new(big.Int).Div(to.Num(), to.Denom())
		if first.Cmp(last) > 0 {
			continue
		}
		switch {
		case first.Sign() > 0:
			return new(big.Rat).SetFrac(first, big.NewInt(d))
		case last.Sign() < 0:
			return new(big.Rat).SetFrac(last, big.NewInt(d))
		}
		return new(big.Rat)
	}
}

func TestSimplest(t *testing.T) { // P2.5
	for _, c := range [][6]int{
		{1, 3, 1, 2, 1, 2}, {1, 2, 3, 4, 2, 3}, {-5, 2, -3, 2, -2, 1}, {-1, 2, 7, 1, 0, 1}, {3, 1, 9, 1, 4, 1}, {-9, 1, -3, 1, -3, 1},
		{0, 1, 1, 5, 1, 5}, {-1, 5, 0, 1, 0, 1}, {-1, 1, -1, 2, -1, 2}, {-1, 5, -1, 7, -1, 6}, {2, 1, 5, 2, 5, 2}, {-3, 1, -2, 1, -2, 1}, {-5, 2, -2, 1, -2, 1}, {-3, 1, -5, 2, -5, 2},
		{314, 100, 315, 100, 22, 7},
	} {
		x, e := rational.Simplest(api.Interval{Lo: fraction(c[0], c[1]), Hi: fraction(c[2], c[3])})
		if e != api.OK || !same(x, fraction(c[4], c[5])) {
			t.Error(c, rational.Format(x), e)
		}
	}
	for _, i := range []api.Interval{{}, {Lo: rational.Of(1), Hi: rational.Of(1)}, {Lo: rational.Of(2), Hi: rational.Of(1)}, {Lo: rational.Of(0), Hi: api.Rat{Num: bigint.Of(1)}}} {
		if x, e := rational.Simplest(i); e != api.ErrRange || !same(x, api.Rat{}) {
			t.Error(i, x, e)
		}
	}
	r := rand.New(rand.NewSource(5))
	for range 20000 {
		a := api.Rat{Num: bigint.Of(r.Intn(400) - 200), Den: bigint.Of(r.Intn(160) - 80)}
		b := api.Rat{Num: bigint.Of(r.Intn(400) - 200), Den: bigint.Of(r.Intn(160) - 80)}
		if rational.Cmp(a, b) == 0 {
			continue
		}
		if rational.Cmp(a, b) > 0 {
			a, b = b, a
		}
		x, e := rational.Simplest(api.Interval{Lo: a, Hi: b})
		if e != api.OK {
			t.Fatal(a, b, e)
		}
		check(t, "Simplest", x, simplest(toBig(a), toBig(b)))
	}
}

// TestSimplestLong reads a fraction of neighbouring Fibonacci numbers off a very small interval.
func TestSimplestLong(t *testing.T) { // P2.5
	f, g := bigint.Of(1), bigint.Of(1)
	for range 2000 {
		f, g = g, bigint.Add(f, g)
	}
	a := api.Rat{Num: f, Den: g}
	gap := api.Rat{Num: bigint.Of(1), Den: bigint.Mul(bigint.Mul(g, g), bigint.Of(4))}
	for _, x := range []api.Rat{a, rational.Neg(a)} {
		for _, i := range []api.Interval{{Lo: rational.Sub(x, gap), Hi: x}, {Lo: rational.Sub(x, gap), Hi: rational.Add(x, gap)}} {
			if y, e := rational.Simplest(i); e != api.OK || !same(x, y) {
				t.Error(e)
			}
		}
	}
}

func TestText(t *testing.T) { // P2.6
	for _, s := range []string{"0", "-1", "17", "1/2", "-3/2", "100000000000000000000/3", "-1/18446744073709551616"} {
		a, e := rational.Parse(s)
		if e != api.OK || rational.Format(a) != s {
			t.Error(s, a, e)
		}
		want, _ := new(big.Rat).SetString(s)
		check(t, "Parse", a, want)
	}
	for _, s := range []string{"", "/", "1/1", "2/4", "0/5", "0/1", "3/-2", "1 / 2", "1/2/3", "/2", "1/", "1/0", "0/0", "-/2", "-0/2", "-0", "+1/2", "1/02", "01/2", "1/2 ", "-1/1", "1/-1", "0.5", "1\\2"} {
		if a, e := rational.Parse(s); e != api.ErrSyntax || !same(a, api.Rat{}) {
			t.Error(s, a, e)
		}
	}
	if s := rational.Format(api.Rat{Num: bigint.Of(6), Den: bigint.Of(-4)}); s != "-3/2" {
		t.Error(s)
	}
	if s := rational.Format(api.Rat{Num: bigint.Of(6)}); s != "0" {
		t.Error(s)
	}
	r := rand.New(rand.NewSource(6))
	for range 1000 {
		a := randomRat(r, 3)
		s := rational.Format(a)
		if s != toBig(a).RatString() {
			t.Fatal(a, s)
		}
		if b, e := rational.Parse(s); e != api.OK || !same(b, rational.Normal(a)) {
			t.Fatal(s, b, e)
		}
	}
}

// TestMemory changes every result and looks whether an argument, or another result, changes with it.
func TestMemory(t *testing.T) { // R3, R4
	calls := map[string]func(a, b api.Rat) api.Rat{
		"Make": func(a, b api.Rat) api.Rat { c, _ := rational.Make(a.Num, b.Den); return c },
		"Same": func(a, b api.Rat) api.Rat { c, _ := rational.Make(a.Den, a.Den); return c },
		"Whole": func(a, b api.Rat) api.Rat {
			return rational.Whole(a.Num)
		},
		"Integer": func(a, b api.Rat) api.Rat { n, _ := rational.Integer(a); return api.Rat{Num: n} },
		"Normal":  func(a, b api.Rat) api.Rat { return rational.Normal(a) },
		"Neg":     func(a, b api.Rat) api.Rat { return rational.Neg(a) },
		"Abs":     func(a, b api.Rat) api.Rat { return rational.Abs(a) },
		"Add":     rational.Add,
		"Sub":     rational.Sub,
		"Mul":     rational.Mul,
		"Quo":     func(a, b api.Rat) api.Rat { c, _ := rational.Quo(a, b); return c },
		"Pow":     func(a, b api.Rat) api.Rat { c, _ := rational.Pow(a, 1); return c },
		"Inverse": func(a, b api.Rat) api.Rat { c, _ := rational.Pow(a, -1); return c },
		"Floor":   func(a, b api.Rat) api.Rat { return api.Rat{Num: rational.Floor(a), Den: rational.Ceil(b)} },
		"Simplest": func(a, b api.Rat) api.Rat {
			c, _ := rational.Simplest(api.Interval{Lo: a, Hi: b})
			return c
		},
	}
	arguments := []api.Rat{
		{}, rational.Of(1), rational.Of(-1), rational.Of(-6), fraction(3, 7), fraction(-1, 5),
		{Num: api.Int{Mag: []uint32{1, 2, 3, 0}}, Den: api.Int{Neg: true, Mag: []uint32{7, 0, 5, 0}}},
		{Num: api.Int{Mag: []uint32{9, 0}}, Den: api.Int{Mag: []uint32{1, 0}}},
	}
	copyOf := func(a api.Rat) api.Rat {
		return api.Rat{Num: api.Int{Neg: a.Num.Neg, Mag: slices.Clone(a.Num.Mag)}, Den: api.Int{Neg: a.Den.Neg, Mag: slices.Clone(a.Den.Mag)}}
	}
	spoil := func(mag []uint32) {
		for i := range mag[:cap(mag)] {
			mag[:cap(mag)][i] = 0xdeadbeef
		}
	}
	for name, call := range calls {
		for _, x := range arguments {
			for _, y := range arguments {
				a, b := copyOf(x), copyOf(y)
				got, want := call(a, b), call(x, y)
				spoil(got.Num.Mag)
				if !sameInt(got.Den, want.Den) {
					t.Error(name, x, y, "numerator and denominator share memory")
				}
				spoil(got.Den.Mag)
				if !same(a, x) || !same(b, y) || !same(call(x, y), want) {
					t.Error(name, x, y, "shared memory")
				}
			}
		}
	}
}
