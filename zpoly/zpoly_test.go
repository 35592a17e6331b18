package zpoly_test

import (
	"math/big"
	"math/rand"
	"slices"
	"strings"
	"testing"

	"halfplane/api"
	"halfplane/bigint"
	"halfplane/rational"
	"halfplane/zpoly"
)

func TestRing(t *testing.T) { // P5.1
	r := rand.New(rand.NewSource(1))
	for i := range 3000 {
		f, g, a := randomPoly(r, 1+i%20, 3), randomPoly(r, 1+i%13, 2), randomInt(r, 2)
		x, y := toPoly(f), toPoly(g)
		check(t, "Normal", zpoly.Normal(f), x)
		if zpoly.Degree(f) != len(x)-1 {
			t.Fatal(f, zpoly.Degree(f))
		}
		check(t, "Add", zpoly.Add(f, g), add(x, y, 1))
		check(t, "Sub", zpoly.Sub(f, g), add(x, y, -1))
		check(t, "Sub", zpoly.Sub(f, f), nil)
		check(t, "Mul", zpoly.Mul(f, g), mul(x, y))
		check(t, "Scale", zpoly.Scale(f, a), mul(x, trim(poly{toInt(a)})))
		check(t, "Derivative", zpoly.Derivative(f), derivative(x))
	}
	for _, f := range []api.ZPoly{nil, {}, {minusZero}, {minusZero, api.Int{Mag: []uint32{0}}}} {
		check(t, "Normal(0)", zpoly.Normal(f), nil)
		if zpoly.Degree(f) != -1 {
			t.Error(f)
		}
	}
}

func TestMulShapes(t *testing.T) { // P5.1
	r := rand.New(rand.NewSource(2))
	extreme := func(n, digits int) api.ZPoly { // coefficients that fill their digits, with both signs
		f := make(api.ZPoly, n)
		for i := range f {
			f[i] = fromInt(new(big.Int).Sub(new(big.Int).Lsh(big.NewInt(1), uint(32*digits)), big.NewInt(1)))
			f[i].Neg = r.Intn(2) == 0
		}
		return f
	}
	for _, n := range []int{5, 6, 7, 8, 31, 64, 100} {
		for _, digits := range []int{1, 2, 5} {
			f, g := extreme(n, digits), extreme(n+3, digits)
			check(t, "Mul", zpoly.Mul(f, g), mul(toPoly(f), toPoly(g)))
			sparse := append(make(api.ZPoly, n), bigint.Of(-3))
			check(t, "Mul", zpoly.Mul(f, sparse), mul(toPoly(f), toPoly(sparse)))
			one := extreme(n, 1)
			one[n/2] = randomInt(r, 40)
			check(t, "Mul", zpoly.Mul(f, one), mul(toPoly(f), toPoly(one)))
			alternating := zpoly.Normal(f)
			for i := range alternating {
				alternating[i].Neg = i%2 == 0
			}
			check(t, "Mul", zpoly.Mul(alternating, alternating), mul(toPoly(alternating), toPoly(alternating)))
		}
	}
}

func TestEval(t *testing.T) { // P5.1
	r := rand.New(rand.NewSource(3))
	for i := range 2000 {
		f := randomPoly(r, 1+i%9, 2)
		x := api.Rat{Num: randomInt(r, 2), Den: randomInt(r, 1)}
		if i%2 == 0 {
			x = api.Rat{Num: bigint.Of(r.Intn(9) - 4), Den: bigint.Of(r.Intn(7) - 3)}
		}
		at, want := toRat(x), new(big.Rat)
		for _, a := range slices.Backward(toPoly(f)) {
			want.Mul(want, at).Add(want, new(big.Rat).SetInt(a))
		}
		got := zpoly.Eval(f, x)
		checkInt(t, "Eval", got.Num, want.Num())
		checkInt(t, "Eval", got.Den, want.Denom())
	}
	if y := zpoly.Eval(of(7, 1), api.Rat{Num: bigint.Of(5)}); rational.Cmp(y, rational.Of(7)) != 0 {
		t.Error("a fraction with the denominator 0 is 0", y)
	}
	if y := zpoly.Eval(nil, rational.Of(3)); !sameInt(y.Den, bigint.Of(1)) || !sameInt(y.Num, api.Int{}) {
		t.Error(y)
	}
}

func TestCompose(t *testing.T) { // P5.1
	r := rand.New(rand.NewSource(4))
	for range 500 {
		f, g := randomPoly(r, 6, 2), randomPoly(r, 6, 2)
		var want poly
		for _, a := range slices.Backward(toPoly(f)) {
			want = add(mul(want, toPoly(g)), poly{a}, 1)
		}
		got, e := zpoly.Compose(f, g)
		if e != api.OK {
			t.Fatal(f, g, e)
		}
		check(t, "Compose", got, trim(want))
	}
	power := func(n int) api.ZPoly { return append(make(api.ZPoly, n), bigint.Of(1)) }
	for _, c := range []struct{ m, n, degree int }{{8, 8, 64}, {1, 64, 64}, {64, 1, 64}, {13, 5, -2}, {5, 13, -2}, {65, 1, -2}, {1, 65, -2}, {100, 0, 0}, {0, 100, 0}, {32, 2, 64}, {33, 2, -2}} {
		h, e := zpoly.Compose(append(power(c.m), minusZero), append(power(c.n), minusZero))
		if c.degree == -2 && (e != api.ErrLarge || h != nil) || c.degree != -2 && (e != api.OK || !same(h, power(c.degree))) {
			t.Error(c, h, e)
		}
	}
	if h, e := zpoly.Compose(of(5, 1, 1), nil); e != api.OK || !same(h, of(5)) {
		t.Error(h, e)
	}
	if h, e := zpoly.Compose(nil, power(100)); e != api.OK || len(h) != 0 {
		t.Error(h, e)
	}
	if h, e := zpoly.Compose(power(1000), of(-1)); e != api.OK || !same(h, of(1)) {
		t.Error(h, e)
	}
}

func TestContent(t *testing.T) { // P5.2
	r := rand.New(rand.NewSource(5))
	for i := range 2000 {
		f := zpoly.Scale(randomPoly(r, 5, 2), randomInt(r, 1+i%2))
		if i%3 == 0 {
			f = append(f, minusZero)
		}
		checkInt(t, "Content", zpoly.Content(f), content(toPoly(f)))
		check(t, "Primitive", zpoly.Primitive(f), primitive(toPoly(f)))
	}
	checkInt(t, "Content(0)", zpoly.Content(of(0, 0)), new(big.Int))
	check(t, "Primitive(0)", zpoly.Primitive(of(0, 0)), nil)
	checkInt(t, "Content(-6)", zpoly.Content(of(-6)), big.NewInt(6))
	check(t, "Primitive(-6)", zpoly.Primitive(of(-6)), poly{big.NewInt(1)})
	check(t, "Primitive", zpoly.Primitive(of(6, -4)), toPoly(of(-3, 2)))
}

func TestDivide(t *testing.T) { // P5.3
	r := rand.New(rand.NewSource(6))
	for i := range 2000 {
		q, g := randomPoly(r, 1+i%12, 2), randomPoly(r, 1+i%7, 2)
		f := zpoly.Mul(q, g)
		if len(toPoly(g)) == 0 {
			if h, e := zpoly.Divide(f, g); e != api.ErrZero || h != nil {
				t.Fatal(f, g, h, e)
			}
			continue
		}
		h, e := zpoly.Divide(append(f, minusZero), g)
		if e != api.OK {
			t.Fatal(f, g, e)
		}
		check(t, "Divide", h, toPoly(q))
		// A remainder of less degree than g, or a leading coefficient that does not divide.
		if n := zpoly.Degree(g); n > 0 {
			rest := append(make(api.ZPoly, r.Intn(n)), bigint.Of(1+r.Intn(3)))
			if h, e := zpoly.Divide(zpoly.Add(f, rest), g); e != api.ErrInexact || h != nil {
				t.Fatal(f, g, h, e)
			}
		}
		if zpoly.Degree(f) > 0 {
			if h, e := zpoly.Divide(f, zpoly.Scale(zpoly.Add(f, of(1)), bigint.Of(2))); e != api.ErrInexact || h != nil {
				t.Fatal(f, g, h, e)
			}
		}
	}
	for _, c := range []struct {
		f, g, q string
		e       api.Errno
	}{
		{"2*x^2 - 2", "x - 1", "2*x + 2", api.OK}, {"0", "x", "0", api.OK}, {"x", "0", "", api.ErrZero}, {"0", "0", "", api.ErrZero},
		{"x", "x^2", "", api.ErrInexact}, {"x", "2", "", api.ErrInexact}, {"x^2 - 1", "2*x - 2", "", api.ErrInexact}, {"4*x - 2", "-2", "-2*x + 1", api.OK}, {"1", "x", "", api.ErrInexact},
	} {
		q, e := zpoly.Divide(parse(t, c.f), parse(t, c.g))
		if e != c.e || e == api.OK && zpoly.Format(q) != c.q {
			t.Error(c, q, e)
		}
	}
	// The quotient would have coefficients of up to 5000 digits.
	huge := append(make(api.ZPoly, 5000), bigint.Of(1))
	huge[0] = bigint.Of(1)
	if q, e := zpoly.Divide(huge, api.ZPoly{{Neg: true, Mag: []uint32{0, 1}}, bigint.Of(1)}); e != api.ErrInexact || q != nil {
		t.Error(e)
	}
}

func TestPseudoDiv(t *testing.T) { // P5.3
	r := rand.New(rand.NewSource(7))
	for i := range 2000 {
		f, g := randomPoly(r, 1+i%9, 2), randomPoly(r, 1+i%6, 2)
		x, y := toPoly(f), toPoly(g)
		q, rest, e := zpoly.PseudoDiv(f, g)
		if len(y) == 0 {
			if e != api.ErrZero || q != nil || rest != nil {
				t.Fatal(f, g, e)
			}
			continue
		}
		if e != api.OK || len(rest) >= len(y) {
			t.Fatal(f, g, q, rest, e)
		}
		factor := new(big.Int).Exp(y[len(y)-1], big.NewInt(int64(max(0, len(x)-len(y)+1))), nil)
		check(t, "PseudoDiv", q, toPoly(q))
		check(t, "PseudoDiv", rest, add(mul(x, poly{factor}), mul(toPoly(q), y), -1))
	}
	q, rest, e := zpoly.PseudoDiv(of(0, 0, 1), of(1, 2))
	if e != api.OK || !same(q, of(-1, 2)) || !same(rest, of(1)) {
		t.Error(q, rest, e)
	}
	q, rest, e = zpoly.PseudoDiv(of(5, 3), of(0, 0, 7))
	if e != api.OK || len(q) != 0 || !same(rest, of(5, 3)) {
		t.Error(q, rest, e)
	}
	q, rest, e = zpoly.PseudoDiv(of(5, 3), of(-2))
	if e != api.OK || !same(q, of(-10, -6)) || len(rest) != 0 {
		t.Error(q, rest, e)
	}
	q, rest, e = zpoly.PseudoDiv(nil, of(-2))
	if e != api.OK || len(q) != 0 || len(rest) != 0 {
		t.Error(q, rest, e)
	}
}

func TestGcd(t *testing.T) { // P5.4
	r := rand.New(rand.NewSource(8))
	for i := range 1000 {
		d := randomPoly(r, 1+i%5, 1+i%3)
		f, g := zpoly.Mul(d, randomPoly(r, 1+i%6, 2)), zpoly.Mul(d, randomPoly(r, 1+i%4, 1))
		checkGcd(t, f, g)
	}
	for _, c := range [][3]string{{"4*x^2 - 4", "6*x + 6", "2*x + 2"}, {"0", "0", "0"}, {"0", "-4*x + 2", "4*x - 2"}, {"-6", "0", "6"}, {"4*x + 6", "-8", "2"},
		{"x", "x + 1", "1"}, {"x^2", "-x", "x"}, {"x", "x + 2147483647", "1"}, {"2147483647*x^2 + x", "-x", "x"}, {"2147483647*x^2 + x + 1", "2147483647*x^3 + x + 1", "1"}, {"-5*x^3", "-15*x^2", "5*x^2"}} {
		if d := zpoly.Gcd(parse(t, c[0]), parse(t, c[1])); zpoly.Format(d) != c[2] {
			t.Error(c, zpoly.Format(d))
		}
	}
	// Values with common divisors that the polynomials do not have: f and g are both
	// divisible by many numbers at every integer, or at powers of two.
	f, g := of(1), of(1)
	for i := range 12 {
		f = zpoly.Mul(f, of(i, 1))
		g = zpoly.Mul(g, of(-1-i, 1))
	}
	checkGcd(t, f, g)
	checkGcd(t, f, zpoly.Mul(g, of(3, 1)))
	for n := 1; n <= 30; n++ {
		cyclic := append(make(api.ZPoly, n), bigint.Of(1))
		cyclic[0] = bigint.Of(-1)
		checkGcd(t, cyclic, f)
		checkGcd(t, cyclic, of(-1, 0, 0, 0, 0, 0, 0, 0, 0, 0, 0, 0, 1))
	}
	// Polynomials without common divisors that have one of 70 binary digits at 2^64, and
	// a common root modulo 2^31 - 1.
	checkGcd(t, of(280708, -876885, 284611, -565856, -38445), of(508473, 285299, -1016044, -449407, -55443))
	checkGcd(t, of(-308750, -620505, -203321, 178037, 233300), of(160082, -17047, 245726, 313910, -585713))
	// A common divisor that is constant modulo 2^31 - 1.
	d := of(1, 1<<31-1)
	checkGcd(t, zpoly.Mul(d, of(1, 1)), zpoly.Mul(d, of(2, 1)))
}

func checkGcd(t *testing.T, f, g api.ZPoly) {
	t.Helper()
	x, y := toPoly(f), toPoly(g)
	c := new(big.Int).GCD(nil, nil, content(x), content(y))
	check(t, "Gcd", zpoly.Gcd(f, g), trim(mul(divisor(x, y), poly{c})))
}

func TestResultant(t *testing.T) { // P5.5
	r := rand.New(rand.NewSource(9))
	for i := range 1500 {
		f, g := randomPoly(r, 1+i%7, 2), randomPoly(r, 1+i%8, 1)
		if i%5 == 0 {
			d := randomPoly(r, 3, 1)
			f, g = zpoly.Mul(f, d), zpoly.Mul(g, d)
		}
		x, y := toPoly(f), toPoly(g)
		want := new(big.Int)
		if len(x) > 0 && len(y) > 0 {
			want = sylvester(x, y)
		}
		checkInt(t, "Resultant", zpoly.Resultant(f, g), want)
	}
	for _, c := range []struct {
		f, g string
		want int
	}{
		{"x^2 + 1", "x - 2", 5}, {"x - 2", "x^2 + 1", 5}, {"x^3 - 2", "x", 2}, {"x", "x^3 - 2", -2}, {"3", "x^2", 9}, {"x^2", "3", 9}, {"-2", "x^3", -8},
		{"3", "5", 1}, {"0", "x", 0}, {"x", "0", 0}, {"0", "0", 0}, {"0", "7", 0}, {"7", "0", 0}, {"-2", "x^2 + 1", 4}, {"x - 1", "x - 3", -2}, {"2*x - 1", "3*x + 5", 13},
	} {
		if got, ok := bigint.Small(zpoly.Resultant(parse(t, c.f), parse(t, c.g))); !ok || got != c.want {
			t.Error(c, got)
		}
	}
	// Sequences with jumps of the degree.
	for m := 1; m <= 9; m++ {
		for n := 1; n <= 9; n++ {
			f := append(make(api.ZPoly, m), bigint.Of(2))
			g := append(make(api.ZPoly, n), bigint.Of(-3))
			f[0], g[0] = bigint.Of(5), bigint.Of(7)
			checkInt(t, "Resultant", zpoly.Resultant(f, g), sylvester(toPoly(f), toPoly(g)))
			g[n/2] = bigint.Add(g[n/2], bigint.Of(1))
			checkInt(t, "Resultant", zpoly.Resultant(f, g), sylvester(toPoly(f), toPoly(g)))
		}
	}
}

func TestDiscriminant(t *testing.T) { // P5.5
	for _, c := range []struct {
		f    string
		want int
	}{{"x^2 + x + 1", -3}, {"x^3 - 2", -108}, {"x", 1}, {"-7*x + 3", 1}, {"x^2", 0}, {"2*x^2 + 3*x - 5", 49}, {"-2*x^2 - 3*x + 5", 49}, {"x^4 + 1", 256}, {"x^5 - 1", 3125}, {"x^3 - x", 4}, {"-x^3 + x", 4}} {
		d, e := zpoly.Discriminant(parse(t, c.f))
		if got, ok := bigint.Small(d); !ok || got != c.want || e != api.OK {
			t.Error(c, d, e)
		}
	}
	for _, f := range []api.ZPoly{nil, of(0, 0), of(5), {bigint.Of(-1), minusZero}} {
		if d, e := zpoly.Discriminant(f); e != api.ErrRange || !sameInt(d, api.Int{}) {
			t.Error(f, d, e)
		}
	}
	r := rand.New(rand.NewSource(10))
	for range 500 {
		f := randomPoly(r, 8, 2)
		x := toPoly(f)
		if len(x) < 2 {
			continue
		}
		want := sylvester(x, derivative(x))
		want.Quo(want, x[len(x)-1])
		if n := len(x) - 1; n*(n-1)/2%2 == 1 {
			want.Neg(want)
		}
		d, e := zpoly.Discriminant(f)
		if e != api.OK {
			t.Fatal(f, e)
		}
		checkInt(t, "Discriminant", d, want)
	}
}

func TestSquareFree(t *testing.T) { // P5.6
	r := rand.New(rand.NewSource(11))
	for i := range 600 {
		f := zpoly.Normal(of(r.Intn(9) - 4))
		for range r.Intn(4) {
			g := randomPoly(r, 4, 1+i%2)
			for range 1 + r.Intn(4) {
				f = zpoly.Mul(f, g)
			}
		}
		checkSquareFree(t, f)
	}
	c, l, e := zpoly.SquareFree(of(0, 0, -4, -8, -4, 0))
	if n, _ := bigint.Small(c); e != api.OK || n != -4 || len(l) != 1 || l[0].Exp != 2 || !same(l[0].Poly, of(0, 1, 1)) {
		t.Error(c, l, e)
	}
	for _, n := range []int{1, -1, 12, -12} {
		c, l, e := zpoly.SquareFree(of(n, 0))
		if m, _ := bigint.Small(c); e != api.OK || m != n || len(l) != 0 {
			t.Error(n, c, l, e)
		}
	}
	if c, l, e := zpoly.SquareFree(api.ZPoly{minusZero}); e != api.ErrZero || l != nil || !sameInt(c, api.Int{}) {
		t.Error(c, l, e)
	}
	c, l, e = zpoly.SquareFree(parse(t, "-x^7 + 3*x^5 - 3*x^3 + x")) // -x (x^2 - 1)^3
	if n, _ := bigint.Small(c); e != api.OK || n != -1 || len(l) != 2 || l[0].Exp != 1 || !same(l[0].Poly, of(0, 1)) || l[1].Exp != 3 || !same(l[1].Poly, of(-1, 0, 1)) {
		t.Error(c, l, e)
	}
}

func checkSquareFree(t *testing.T, f api.ZPoly) {
	t.Helper()
	c, l, e := zpoly.SquareFree(f)
	if zpoly.Degree(f) < 0 {
		if e != api.ErrZero {
			t.Fatal(f, e)
		}
		return
	}
	product, all := trim(poly{toInt(c)}), poly{big.NewInt(1)}
	for i, x := range l {
		g := toPoly(x.Poly)
		check(t, "SquareFree", x.Poly, primitive(g))
		if len(g) < 2 || x.Exp < 1 || i > 0 && l[i-1].Exp >= x.Exp {
			t.Fatal(f, l)
		}
		all = mul(all, g)
		for range x.Exp {
			product = mul(product, g)
		}
	}
	check(t, "SquareFree", zpoly.Normal(f), product)
	// The factors are square-free and without common roots, if their product is square-free.
	if e != api.OK || len(divisor(all, derivative(all))) > 1 {
		t.Fatal(f, l, e)
	}
}

func TestText(t *testing.T) { // P5.7
	for _, c := range []struct {
		f api.ZPoly
		s string
	}{
		{of(5, -1, 3), "3*x^2 - x + 5"}, {nil, "0"}, {of(0, 0), "0"}, {of(1), "1"}, {of(-1), "-1"}, {of(0, 1), "x"}, {of(0, -1), "-x"}, {of(-1, -1), "-x - 1"},
		{of(1, 2), "2*x + 1"}, {of(0, -2), "-2*x"}, {of(0, 0, 0, 1), "x^3"}, {of(0, 0, -10), "-10*x^2"}, {of(0, -1, 0, 0, 1), "x^4 - x"}, {of(12, 0, 1), "x^2 + 12"},
		{append(make(api.ZPoly, 64), bigint.Of(-1)), "-x^64"}, {api.ZPoly{minusZero, bigint.Of(1), minusZero}, "x"}, {of(1, 1), "x + 1"},
		{api.ZPoly{{Mag: []uint32{0, 1}}, {Neg: true, Mag: []uint32{0, 0, 1, 0}}}, "-18446744073709551616*x + 4294967296"},
	} {
		if s := zpoly.Format(c.f); s != c.s {
			t.Error(c, s)
		}
		f, e := zpoly.Parse(c.s)
		if e != api.OK {
			t.Error(c, e)
		}
		check(t, "Parse", f, toPoly(c.f))
	}
	r := rand.New(rand.NewSource(12))
	for i := range 2000 {
		f := randomPoly(r, 1+i%65, 2)
		s := zpoly.Format(f)
		g, e := zpoly.Parse(s)
		if e != api.OK {
			t.Fatal(s, e)
		}
		check(t, "Parse", g, toPoly(f))
	}
}

func TestParseErrors(t *testing.T) { // P5.7
	for _, s := range []string{"", " ", "-", "-0", "+x", "+1", "00", "01", "0*x", "x + 0", "0 + x", "1*x", "-1*x", "1*x^2", "x^1", "x^0", "x^", "2*", "2x", "2*x^1", "2*x*x", "x^2^2", "*x",
		"x ", " x", "x+1", "x +1", "x+ 1", "x  + 1", "x + -1", "x - -1", "- x", "--x", "x + ", "x - ", "x +", "x^-1", "x^02", "02*x", "x^2.5", "x + x", "1 + x", "x + x^2", "x^2 + x^2", "1 + 1",
		"y", "X", "x\n", "x\x00", "x+", "3 * x", "3*x ^2", "3*x^ 2", "x/2", "1/2", "x^2 + 2*", "x^2 + y", "é", "x^2 +\u00a01", "x^100 +", "x^100 + x^200", "x^65 - x^65", "0x", "0 ", "0 + 0"} {
		if f, e := zpoly.Parse(s); e != api.ErrSyntax || f != nil {
			t.Errorf("%q: %v, %v", s, f, e)
		}
	}
	for _, s := range []string{"x^65", "-2*x^100 + 1", "x^18446744073709551617", "3*x^9223372036854775808 - x^64 + 1", "x^1000000000000000000000000"} {
		if f, e := zpoly.Parse(s); e != api.ErrLarge || f != nil {
			t.Errorf("%q: %v, %v", s, f, e)
		}
	}
	// Every change of one byte is refused, or gives the form of another polynomial.
	right := "-12*x^10 + x^9 - 3*x + 40"
	for i := range right {
		for _, c := range []byte(" +-*^x0123456789y") {
			s := right[:i] + string(rune(c)) + right[i+1:]
			if f, e := zpoly.Parse(s); e == api.OK && zpoly.Format(f) != s {
				t.Errorf("%q: %v", s, f)
			}
		}
		if f, e := zpoly.Parse(right[:i] + right[i+1:]); e == api.OK && zpoly.Format(f) != right[:i]+right[i+1:] {
			t.Errorf("%q: %v", right[:i]+right[i+1:], f)
		}
	}
	if f, e := zpoly.Parse(strings.Repeat("9", 30000) + "*x"); e != api.OK || zpoly.Degree(f) != 1 {
		t.Error(e)
	}
}

func TestConsequences(t *testing.T) { // P5.8
	r := rand.New(rand.NewSource(13))
	for range 500 {
		f, g, h := randomPoly(r, 5, 1), randomPoly(r, 5, 1), randomPoly(r, 4, 1)
		if !sameInt(zpoly.Content(zpoly.Mul(f, g)), bigint.Mul(zpoly.Content(f), zpoly.Content(g))) {
			t.Fatal("content", f, g)
		}
		res := zpoly.Resultant(f, g)
		common := zpoly.Degree(f) < 0 || zpoly.Degree(g) < 0 || zpoly.Degree(zpoly.Gcd(f, g)) > 0
		if common != (bigint.Sign(res) == 0) {
			t.Fatal("common roots", f, g, res)
		}
		if !sameInt(zpoly.Resultant(f, zpoly.Mul(g, h)), bigint.Mul(res, zpoly.Resultant(f, h))) {
			t.Fatal("product", f, g, h)
		}
		back := zpoly.Resultant(g, f)
		if zpoly.Degree(f)*zpoly.Degree(g)%2 != 0 {
			back = bigint.Neg(back)
		}
		if !sameInt(back, res) {
			t.Fatal("order", f, g)
		}
		if d, e := zpoly.Discriminant(f); e == api.OK {
			_, l, _ := zpoly.SquareFree(f)
			squareFree := len(l) == 1 && l[0].Exp == 1
			if squareFree != (bigint.Sign(d) != 0) {
				t.Fatal("discriminant", f, d)
			}
		}
	}
}

// results returns all polynomials that the functions return, and the integers as constants.
func results(f, g api.ZPoly, a api.Int) []api.ZPoly {
	composed, _ := zpoly.Compose(f, g)
	quotient, _ := zpoly.Divide(zpoly.Mul(f, g), g)
	q, r, _ := zpoly.PseudoDiv(f, g)
	few, rest, _ := zpoly.PseudoDiv(g, f)
	d, _ := zpoly.Discriminant(f)
	c, l, _ := zpoly.SquareFree(zpoly.Mul(f, zpoly.Mul(g, g)))
	y := zpoly.Eval(f, api.Rat{Num: a, Den: bigint.Of(1)})
	parsed, _ := zpoly.Parse("-7*x^3 + x")
	all := []api.ZPoly{zpoly.Normal(f), zpoly.Add(f, g), zpoly.Sub(f, g), zpoly.Mul(f, g), zpoly.Scale(f, a), zpoly.Derivative(f), composed, zpoly.Primitive(f), quotient, q, r, few, rest,
		zpoly.Gcd(f, g), zpoly.Gcd(f, nil), zpoly.Gcd(nil, g), zpoly.Gcd(f, f), parsed, {zpoly.Content(f)}, {zpoly.Resultant(f, g)}, {d}, {c}, {y.Num}, {y.Den}, zpoly.Scale(f, bigint.Of(1))}
	for _, x := range l {
		all = append(all, x.Poly)
	}
	return all
}

func TestMemory(t *testing.T) { // R3, R4
	r := rand.New(rand.NewSource(14))
	for range 50 {
		f, g, a := append(randomPoly(r, 7, 2), bigint.Of(3), minusZero), append(randomPoly(r, 5, 2), bigint.Of(-1)), randomInt(r, 2)
		f[0], g[0] = bigint.Of(6), bigint.Of(2) // a content, and constants that are not 0
		before := [3]string{text(f), text(g), text(api.ZPoly{a})}
		first, second := results(f, g, a), results(f, g, a)
		for i, h := range first {
			for j := range h {
				overwrite(h[j])
			}
			overwriteAll(h)
			if text(second[i]) == text(h) && len(h) > 0 {
				t.Fatal("the same memory", i)
			}
			for j := i + 1; j < len(first); j++ {
				if text(first[j]) != text(second[j]) {
					t.Fatal("shared memory", i, j)
				}
			}
		}
		if before != [3]string{text(f), text(g), text(api.ZPoly{a})} {
			t.Fatal("an argument was changed")
		}
		third := results(f, g, a)
		for i := range third {
			if text(third[i]) != text(second[i]) {
				t.Fatal("a result depends on earlier calls", i)
			}
		}
	}
}

// overwrite writes into all digits of an integer, up to the capacity.
func overwrite(a api.Int) {
	for i := range a.Mag[:cap(a.Mag)] {
		a.Mag[:cap(a.Mag)][i] = 0xDEADBEEF
	}
}

// overwriteAll writes into all coefficients, up to the capacity.
func overwriteAll(f api.ZPoly) {
	f = f[:cap(f)]
	for i := range f {
		overwrite(f[i])
		f[i] = api.Int{Mag: []uint32{7, 7, 7, 7, 7, 7, 7}}
	}
}

// text returns what a polynomial consists of, whatever its value.
func text(f api.ZPoly) string {
	var b strings.Builder
	for _, a := range f {
		if a.Neg {
			b.WriteString("-")
		}
		for _, d := range a.Mag {
			b.WriteString(big.NewInt(int64(d)).String() + ",")
		}
		b.WriteString(";")
	}
	return b.String()
}

func TestGreatPolynomials(t *testing.T) { // P1
	r := rand.New(rand.NewSource(15))
	random := func(n, digits int) api.ZPoly {
		f := make(api.ZPoly, n+1)
		for i := range f {
			f[i] = api.Int{Neg: r.Intn(2) == 0, Mag: make([]uint32, digits)}
			for j := range f[i].Mag {
				f[i].Mag[j] = r.Uint32()
			}
		}
		return f
	}
	d, f, g := random(16, 40), random(40, 60), random(30, 60)
	if got := zpoly.Gcd(zpoly.Mul(d, f), zpoly.Mul(d, g)); !same(got, zpoly.Primitive(d)) {
		t.Error("Gcd")
	}
	q, e := zpoly.Divide(zpoly.Mul(f, g), g)
	if e != api.OK || !same(q, zpoly.Normal(f)) {
		t.Error("Divide", e)
	}
	f, g = random(36, 2), random(30, 3)
	checkInt(t, "Resultant", zpoly.Resultant(f, g), sylvester(toPoly(f), toPoly(g)))
	_, l, e := zpoly.SquareFree(zpoly.Mul(d, zpoly.Mul(d, d)))
	if e != api.OK || len(l) != 1 || l[0].Exp != 3 || !same(l[0].Poly, zpoly.Primitive(d)) {
		t.Error("SquareFree", e)
	}
	long := random(20000, 1)
	check(t, "Mul", zpoly.Mul(long, of(1, 1)), add(append(poly{new(big.Int)}, toPoly(long)...), toPoly(long), 1))
	square := zpoly.Mul(long, long)
	value := toPoly(api.ZPoly{zpoly.Eval(long, rational.Of(-1)).Num})[0]
	checkInt(t, "Eval", zpoly.Eval(square, rational.Of(-1)).Num, new(big.Int).Mul(value, value))
}
