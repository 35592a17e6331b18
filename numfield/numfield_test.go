package numfield_test

import (
	"math"
	"math/big"
	"math/rand"
	"slices"
	"testing"

	"halfplane/api"
	"halfplane/bigint"
	"halfplane/charpoly"
	"halfplane/factor"
	"halfplane/matrix"
	"halfplane/numfield"
	"halfplane/qpoly"
	"halfplane/rational"
	"halfplane/realroots"
	"halfplane/zpoly"
)

// power returns 2^n as a polynomial's coefficient.
func power(n int) api.Int {
	a, _ := bigint.Pow(bigint.Of(2), n)
	return a
}

// malformed are moduli of fields that are not well-formed.
func malformed() []api.ZPoly {
	one := bigint.Of(1)
	long := make(api.ZPoly, 14)
	long[0], long[13] = bigint.Of(-2), one
	large := make(api.ZPoly, 14)
	large[0], large[13] = power(5000), one
	return []api.ZPoly{nil, {one}, {bigint.Of(2)}, {{}, {}}, {one, bigint.Of(2)}, {one, bigint.Of(-1)}, {bigint.Of(-1), {}, bigint.Of(2)}, {power(5000), bigint.Of(2)}, {one, minusZero, {}}, long, large}
}

func TestNew(t *testing.T) { // P14.1
	for _, s := range fields {
		want := modulus(s)
		f := append(slices.Clone(want.Modulus), minusZero, api.Int{})
		f[0] = api.Int{Neg: f[0].Neg || len(f[0].Mag) == 0, Mag: append(slices.Clone(f[0].Mag), 0)}
		k, e := numfield.New(f)
		if e != api.OK || text(k.Modulus) != text(want.Modulus) {
			t.Error(s, k, e)
		}
		if e := numfield.Check(api.Field{Modulus: f}); e != api.OK {
			t.Error(s, e)
		}
		checkMemory(t, k.Modulus)
		if f[0].Mag[0] == 0xDEADBEEF {
			t.Error("the modulus shares memory")
		}
	}
	refused := func(f api.ZPoly, want api.Errno) {
		t.Helper()
		if k, e := numfield.New(f); e != want || len(k.Modulus) != 0 {
			t.Error(f, k, e)
		}
		if e := numfield.Check(api.Field{Modulus: f}); e != want {
			t.Error(f, e)
		}
	}
	for _, f := range malformed() {
		refused(f, api.ErrForm)
	}
	for _, s := range rings {
		refused(modulus(s).Modulus, api.ErrReducible)
	}
	refused(modulus("2*x^2 - 1").Modulus, api.ErrForm)
	one := bigint.Of(1)
	refused(api.ZPoly{{}, power(4096), one}, api.ErrLarge)
	refused(api.ZPoly{bigint.Neg(power(4096)), one}, api.ErrLarge)
	refused(api.ZPoly{{}, power(4095), one}, api.ErrReducible)
	if _, e := numfield.New(api.ZPoly{bigint.Sub(power(4096), one), one}); e != api.OK {
		t.Error(e)
	}
}

func TestRing(t *testing.T) { // P14.2
	r := rand.New(rand.NewSource(1))
	for i, s := range slices.Concat(fields, rings, fields, rings) {
		k := modulus(s)
		own := fieldOf(k)
		n := own.degree()
		for range 12 {
			a, b := random(r, n+i%5), random(r, n+i%3)
			x, y := own.normal(toPoly(a)), own.normal(toPoly(b))
			c, e := numfield.Normal(k, a)
			check(t, "Normal", c, e, x)
			c, e = numfield.Add(k, a, b)
			check(t, "Add", c, e, add(x, y, big.NewRat(1, 1), 0))
			c, e = numfield.Sub(k, a, b)
			check(t, "Sub", c, e, add(x, y, big.NewRat(-1, 1), 0))
			c, e = numfield.Mul(k, a, b)
			check(t, "Mul", c, e, own.mul(x, y))
			exponent := r.Intn(6)
			c, e = numfield.Pow(k, a, exponent)
			want := poly{big.NewRat(1, 1)}
			for range exponent {
				want = own.mul(want, x)
			}
			check(t, "Pow", c, e, own.normal(want))
			var sum poly
			g := api.Poly(random(r, 7))
			for _, c := range slices.Backward(g) {
				sum = add(own.mul(sum, x), poly{toRat(c)}, big.NewRat(1, 1), 0)
			}
			c, e = numfield.Eval(k, g, a)
			check(t, "Eval", c, e, sum)
		}
	}
	k := modulus("x^2 - 2")
	a := api.Elem(parse("1 1"))
	c, e := numfield.Mul(k, a, a)
	check(t, "Mul", c, e, toPoly(parse("3 2")))
	// Long elements and polynomials.
	long := make(api.Elem, 3000)
	long[2999] = rational.Of(1)
	c, e = numfield.Normal(modulus("x^3 - x - 1"), long[:8])
	check(t, "Normal", c, e, nil)
	c, e = numfield.Normal(modulus("x^2 + 1"), long)
	check(t, "Normal", c, e, toPoly(parse("0 -1")))
	c, e = numfield.Eval(modulus("x^2 + 1"), api.Poly(long), parse("0 -1"))
	check(t, "Eval", c, e, toPoly(parse("0 1")))
	c, e = numfield.Eval(k, nil, a)
	check(t, "Eval", c, e, nil)
}

func TestInverse(t *testing.T) { // P14.2, P14.6
	r := rand.New(rand.NewSource(2))
	for _, s := range slices.Concat(fields, rings) {
		k := modulus(s)
		own := fieldOf(k)
		irreducible, _ := factor.Irreducible(k.Modulus)
		for range 12 {
			a := random(r, own.degree()+1)
			if r.Intn(2) == 0 { // a factor of many of the moduli
				a, _ = numfield.Mul(k, a, parse("-1 1"))
			}
			x := own.normal(toPoly(a))
			b, e := numfield.Inverse(k, a)
			c, f := numfield.Pow(k, a, -1)
			singular := det(own.matrix(x)).Sign() == 0
			switch {
			case len(x) == 0:
				if e != api.ErrZero || f != api.ErrZero || len(b)+len(c) != 0 {
					t.Fatal(s, a, b, e, f)
				}
			case singular:
				if e != api.ErrSingular || f != api.ErrSingular || irreducible || len(b)+len(c) != 0 {
					t.Fatal(s, a, b, e, f)
				}
			default:
				check(t, "Inverse", b, e, toPoly(b))
				check(t, "Pow", c, f, toPoly(b))
				check(t, "1", fromPoly(own.mul(x, toPoly(b))), e, poly{big.NewRat(1, 1)})
				if len(b) > own.degree() {
					t.Fatal(s, a, b)
				}
				c, e = numfield.Pow(k, a, -3)
				check(t, "Pow", c, e, own.mul(toPoly(b), own.mul(toPoly(b), toPoly(b))))
			}
		}
	}
	b, e := numfield.Inverse(modulus("x^2 - 2"), parse("1 1"))
	check(t, "Inverse", b, e, toPoly(parse("-1 1")))
	b, e = numfield.Inverse(modulus("x"), parse("2/3 5"))
	check(t, "Inverse", b, e, toPoly(parse("3/2")))
	// A divisor of zero, and a nilpotent element.
	for _, c := range []struct{ modulus, a string }{{"x^2 - 4", "2 1"}, {"x^3", "0 0 5"}, {"x^2 - 4", "4 0 -1"}} {
		want := api.ErrSingular
		if c.a == "4 0 -1" {
			want = api.ErrZero
		}
		if b, e := numfield.Inverse(modulus(c.modulus), parse(c.a)); e != want || len(b) != 0 {
			t.Error(c, b, e)
		}
	}
}

// fromPoly returns an element of fractions of the tests' own arithmetic.
func fromPoly(f poly) api.Elem {
	var a api.Elem
	for _, x := range f {
		a = append(a, fromRat(x))
	}
	return a
}

func TestPow(t *testing.T) { // P14.2
	k := modulus("x^2 - 4")
	singular, zero := api.Elem(parse("2 1")), api.Elem{{Num: minusZero, Den: bigint.Of(3)}}
	for _, c := range []struct {
		a    api.Elem
		n    int
		want api.Errno
	}{{zero, 1001, api.ErrRange}, {zero, -1001, api.ErrRange}, {singular, math.MinInt, api.ErrRange}, {singular, math.MaxInt, api.ErrRange}, {zero, -1000, api.ErrZero}, {singular, -1000, api.ErrSingular}} {
		if b, e := numfield.Pow(k, c.a, c.n); e != c.want || len(b) != 0 {
			t.Error(c, b, e)
		}
	}
	for _, a := range []api.Elem{zero, singular, nil} {
		b, e := numfield.Pow(k, a, 0)
		check(t, "Pow", b, e, poly{big.NewRat(1, 1)})
	}
	b, e := numfield.Pow(k, zero, 7)
	check(t, "Pow", b, e, nil)
	k = modulus("x^4 + 1")
	b, e = numfield.Pow(k, parse("0 1"), 999)
	check(t, "Pow", b, e, toPoly(parse("0 0 0 -1"))) // 999 is 7 modulo 8
	b, e = numfield.Pow(k, parse("0 1"), -1000)
	check(t, "Pow", b, e, toPoly(parse("1")))
}

func TestLinearAlgebra(t *testing.T) { // P14.3
	r := rand.New(rand.NewSource(3))
	for _, s := range slices.Concat(fields, rings) {
		k := modulus(s)
		own := fieldOf(k)
		for range 8 {
			a := random(r, own.degree()+2)
			x := own.normal(toPoly(a))
			rows := own.matrix(x)
			m, e := numfield.Multiplication(k, a)
			checkMatrix(t, "Multiplication", m, e, rows)
			norm, e := numfield.Norm(k, a)
			checkRat(t, "Norm", norm, e, det(rows))
			trace, e := numfield.Trace(k, a)
			sum := new(big.Rat)
			for i, row := range rows {
				sum.Add(sum, row[i])
			}
			checkRat(t, "Trace", trace, e, sum)
			f, e := numfield.CharPoly(k, a)
			g, _ := charpoly.CharPoly(m)
			check(t, "CharPoly", f, e, toPoly(g))
			f, e = numfield.MinPoly(k, a)
			check(t, "MinPoly", f, e, own.minimal(x))
			g, _ = charpoly.MinPoly(m)
			check(t, "MinPoly", f, e, toPoly(g))
		}
		form, e := numfield.TraceForm(k)
		var rows [][]*big.Rat
		for i := range own.degree() {
			var row []*big.Rat
			for j := range own.degree() {
				sum := new(big.Rat)
				for l, x := range own.matrix(add(nil, poly{big.NewRat(1, 1)}, big.NewRat(1, 1), i+j)) {
					sum.Add(sum, x[l])
				}
				row = append(row, sum)
			}
			rows = append(rows, row)
		}
		checkMatrix(t, "TraceForm", form, e, rows)
	}
	k := modulus("x^2 - 2")
	a := api.Elem(parse("1 1"))
	norm, e := numfield.Norm(k, a)
	checkRat(t, "Norm", norm, e, big.NewRat(-1, 1))
	trace, e := numfield.Trace(k, a)
	checkRat(t, "Trace", trace, e, big.NewRat(2, 1))
	f, e := numfield.MinPoly(k, a)
	check(t, "MinPoly", f, e, toPoly(parse("-1 -2 1")))
	f, e = numfield.MinPoly(k, nil)
	check(t, "MinPoly", f, e, toPoly(parse("0 1")))
	f, e = numfield.MinPoly(k, parse("-2/3"))
	check(t, "MinPoly", f, e, toPoly(parse("2/3 1")))
	f, e = numfield.CharPoly(k, parse("3"))
	check(t, "CharPoly", f, e, toPoly(parse("9 -6 1")))
	form, e := numfield.TraceForm(k)
	checkMatrix(t, "TraceForm", form, e, [][]*big.Rat{{big.NewRat(2, 1), new(big.Rat)}, {new(big.Rat), big.NewRat(4, 1)}})
}

// signAt returns the sign of an element at a root of the modulus, which no other root is
// close to, by halving an interval until the values at its ends are sure.
func signAt(own field, a poly, i api.Interval) int {
	value := func(f poly, x *big.Rat) *big.Rat {
		y := new(big.Rat)
		for _, c := range slices.Backward(f) {
			y.Add(y.Mul(y, x), c)
		}
		return y
	}
	lo, hi := toRat(i.Lo), toRat(i.Hi)
	for range 150 {
		mid := new(big.Rat).Add(lo, hi)
		mid.Mul(mid, big.NewRat(1, 2))
		// Lo is no root, or one outside of the interval: its sign there is minus that at Hi.
		if s := value(own.f, mid).Sign(); s == 0 || s == value(own.f, hi).Sign() || value(own.f, hi).Sign() == 0 && s != value(own.f, lo).Sign() {
			hi = mid
		} else {
			lo = mid
		}
	}
	return value(a, hi).Sign()
}

func TestReal(t *testing.T) { // P14.4, P14.6
	r := rand.New(rand.NewSource(4))
	for _, s := range fields {
		k := modulus(s)
		own := fieldOf(k)
		l, e := numfield.Real(k)
		want, _ := realroots.Isolate(k.Modulus)
		if e != api.OK || len(l) != len(want) {
			t.Fatal(s, l, e)
		}
		for i := range l {
			check(t, "Real", []api.Rat{l[i].Lo, l[i].Hi}, e, poly{toRat(want[i].Lo), toRat(want[i].Hi)})
		}
		for range 15 {
			a := random(r, own.degree()+1)
			product := 1
			for i := range l {
				sign, e := numfield.SignAt(k, a, i)
				if own.degree() > 1 && e == api.OK && sign != signAt(own, own.normal(toPoly(a)), l[i]) {
					t.Fatal(s, a, i, sign)
				}
				if e != api.OK {
					t.Fatal(s, a, i, e)
				}
				product *= sign
			}
			norm, _ := numfield.Norm(k, a)
			if rational.Sign(norm) != product && (len(own.normal(toPoly(a))) > 0 || len(l) > 0) {
				t.Fatal(s, a, norm, product)
			}
		}
		for _, i := range []int{-1, len(l), math.MinInt, math.MaxInt} {
			if sign, e := numfield.SignAt(k, nil, i); e != api.ErrRange || sign != 0 {
				t.Error(s, i, sign, e)
			}
		}
	}
}

func TestSigns(t *testing.T) { // P14.4
	k := modulus("x^2 - 2")
	for i, want := range []int{-1, 1} {
		if sign, e := numfield.SignAt(k, parse("1 1"), i); e != api.OK || sign != want {
			t.Error(i, sign, e)
		}
		if sign, e := numfield.SignAt(k, parse("-1/3 -1/3"), i); e != api.OK || sign != -want {
			t.Error(i, sign, e)
		}
		if sign, e := numfield.SignAt(k, parse("-2 0 1"), i); e != api.OK || sign != 0 {
			t.Error(i, sign, e)
		}
	}
	// Roots 0, 1 (twice) and 2: the values of x^2 - x are 0, 0 and 2.
	k = modulus("x^4 - 4*x^3 + 5*x^2 - 2*x")
	for i, want := range []int{0, 0, 1} {
		if sign, e := numfield.SignAt(k, parse("0 -1 1"), i); e != api.OK || sign != want {
			t.Error(i, sign, e)
		}
	}
	if l, e := numfield.Real(k); e != api.OK || len(l) != 3 {
		t.Error(l, e)
	}
	// Degree 1: the signs of rational numbers.
	for a, want := range map[string]int{"1/3": 1, "-2": -1, "0": 0, "5 -2": -1, "-6 2": 0} {
		if sign, e := numfield.SignAt(modulus("x - 3"), parse(a), 0); e != api.OK || sign != want {
			t.Error(a, sign, e)
		}
	}
}

func TestLarge(t *testing.T) { // P14.4
	one := bigint.Of(1)
	k := api.Field{Modulus: api.ZPoly{bigint.Neg(power(4096)), {}, one}}
	if l, e := numfield.Real(k); e != api.ErrLarge || len(l) != 0 {
		t.Error(l, e)
	}
	for _, i := range []int{-1, 0, 2} {
		if sign, e := numfield.SignAt(k, nil, i); e != api.ErrLarge || sign != 0 {
			t.Error(sign, e)
		}
	}
	k = modulus("x^2 - 2")
	large := api.Elem{rational.Whole(power(4096)), rational.Of(1)}
	for _, c := range []struct {
		a    api.Elem
		i    int
		sign int
		want api.Errno
	}{
		{large, 2, 0, api.ErrRange}, {large, 0, 0, api.ErrLarge}, {api.Elem{rational.Whole(power(4095)), rational.Of(1)}, 0, 1, api.OK}, {api.Elem{rational.Whole(bigint.Neg(power(5000)))}, 0, -1, api.OK},
		{api.Elem{rational.Of(1), {Num: one, Den: power(4096)}}, 1, 0, api.ErrLarge}, {api.Elem{rational.Whole(power(5000)), rational.Whole(power(4999))}, 0, 1, api.OK},
		// Modulo x^2 - 2 the element is 1.
		{api.Elem{rational.Whole(bigint.Add(power(5001), one)), {}, rational.Whole(bigint.Neg(power(5000)))}, 0, 1, api.OK},
		// And here it is 2^4096 + x.
		{api.Elem{{}, rational.Of(1), rational.Whole(power(4095))}, 0, 0, api.ErrLarge},
	} {
		if sign, e := numfield.SignAt(k, c.a, c.i); e != c.want || sign != c.sign {
			t.Error(len(c.a), c.i, sign, e)
		}
	}
	// The other functions have no limit.
	k = api.Field{Modulus: api.ZPoly{bigint.Neg(power(4097)), {}, one}}
	c, e := numfield.Mul(k, parse("0 1"), parse("0 1"))
	check(t, "Mul", c, e, poly{new(big.Rat).SetInt(toInt(power(4097)))})
}

func TestFormat(t *testing.T) { // P14.5
	for _, c := range []struct{ modulus, a, want string }{
		{"x^3 - 2", "3 -1 1/2", "1/2*a^2 - a + 3"}, {"x^3 - 2", "", "0"}, {"x^3 - 2", "0 0", "0"}, {"x^3 - 2", "1", "1"}, {"x^3 - 2", "-1", "-1"}, {"x^3 - 2", "-1/2", "-1/2"}, {"x^3 - 2", "0 -1", "-a"}, {"x^3 - 2", "0 1", "a"},
		{"x^3 - 2", "0 -5/3", "-5/3*a"}, {"x^3 - 2", "1 0 -1", "-a^2 + 1"}, {"x^3 - 2", "-7/2 1 1", "a^2 + a - 7/2"}, {"x^3 - 2", "0 0 0 1", "2"}, {"x^3 - 2", "0 0 0 0 1/2", "a"},
		{"x^12 - 3", "0 0 0 0 0 0 0 0 0 0 -1 12", "12*a^11 - a^10"}, {"x", "5 7", "5"}, {"x^2", "-1 -1 4", "-a - 1"}, {"x^2 + 1", "100000000000000000000/3 -1", "-a + 100000000000000000000/3"},
	} {
		if s, e := numfield.Format(modulus(c.modulus), parse(c.a)); e != api.OK || s != c.want {
			t.Error(c, s, e)
		}
	}
	unusual := api.Elem{{Num: bigint.Of(6), Den: bigint.Of(-4)}, {Num: bigint.Of(5)}, {Num: bigint.Of(-3), Den: bigint.Of(-3)}, {Num: minusZero, Den: bigint.Of(1)}}
	if s, e := numfield.Format(modulus("x^4 + 1"), unusual); e != api.OK || s != "a^2 - 3/2" {
		t.Error(s, e)
	}
}

func TestNorms(t *testing.T) { // P14.6
	r := rand.New(rand.NewSource(5))
	for _, s := range slices.Concat(fields, rings) {
		k := modulus(s)
		n := zpoly.Degree(k.Modulus)
		for range 5 {
			a, b := random(r, n), random(r, n)
			product, _ := numfield.Mul(k, a, b)
			sum, _ := numfield.Add(k, a, b)
			norm := func(a api.Elem) *big.Rat { x, _ := numfield.Norm(k, a); return toRat(x) }
			trace := func(a api.Elem) *big.Rat { x, _ := numfield.Trace(k, a); return toRat(x) }
			if norm(product).Cmp(new(big.Rat).Mul(norm(a), norm(b))) != 0 || trace(sum).Cmp(new(big.Rat).Add(trace(a), trace(b))) != 0 {
				t.Fatal(s, a, b)
			}
			// The resultant of f and c * g is c^n times that of f and g.
			g, c := qpoly.Clear(api.Poly(a))
			scale, _ := rational.Pow(c, n)
			want := rational.Mul(scale, rational.Whole(zpoly.Resultant(k.Modulus, g)))
			x, e := numfield.Norm(k, a)
			checkRat(t, "Norm", x, e, toRat(want))
			if irreducible, _ := factor.Irreducible(k.Modulus); irreducible {
				minimal, _ := numfield.MinPoly(k, a)
				f, _ := qpoly.Clear(minimal)
				if ok, _ := factor.Irreducible(f); !ok {
					t.Fatal(s, a, minimal)
				}
				power := minimal
				for qpoly.Degree(power) < n {
					power = qpoly.Mul(power, minimal)
				}
				characteristic, e := numfield.CharPoly(k, a)
				check(t, "CharPoly", characteristic, e, toPoly(power))
			}
		}
		form, e := numfield.TraceForm(k)
		plus, minus, zero, _ := matrix.Signature(form)
		real, _ := realroots.Total(k.Modulus)
		roots := n - zpoly.Degree(zpoly.Gcd(k.Modulus, zpoly.Derivative(k.Modulus)))
		pairs := (roots - real) / 2
		if plus != real+pairs || minus != pairs || zero != n-roots {
			t.Error(s, plus, minus, zero)
		}
		x, _ := matrix.Det(form)
		disc, _ := zpoly.Discriminant(k.Modulus)
		checkRat(t, "determinant", x, e, new(big.Rat).SetInt(toInt(disc)))
	}
}

func TestErrors(t *testing.T) { // ErrForm comes first
	a := api.Elem(parse("0"))
	for _, f := range malformed() {
		k := api.Field{Modulus: f}
		for name, do := range map[string]func() ([]api.Rat, api.Errno){
			"Normal":         func() ([]api.Rat, api.Errno) { c, e := numfield.Normal(k, a); return c, e },
			"Add":            func() ([]api.Rat, api.Errno) { c, e := numfield.Add(k, a, a); return c, e },
			"Sub":            func() ([]api.Rat, api.Errno) { c, e := numfield.Sub(k, a, a); return c, e },
			"Mul":            func() ([]api.Rat, api.Errno) { c, e := numfield.Mul(k, a, a); return c, e },
			"Inverse":        func() ([]api.Rat, api.Errno) { c, e := numfield.Inverse(k, a); return c, e },
			"Pow":            func() ([]api.Rat, api.Errno) { c, e := numfield.Pow(k, a, -1001); return c, e },
			"Multiplication": func() ([]api.Rat, api.Errno) { m, e := numfield.Multiplication(k, a); return m.A, e },
			"CharPoly":       func() ([]api.Rat, api.Errno) { c, e := numfield.CharPoly(k, a); return c, e },
			"MinPoly":        func() ([]api.Rat, api.Errno) { c, e := numfield.MinPoly(k, a); return c, e },
			"Eval":           func() ([]api.Rat, api.Errno) { c, e := numfield.Eval(k, api.Poly(a), a); return c, e },
			"TraceForm":      func() ([]api.Rat, api.Errno) { m, e := numfield.TraceForm(k); return m.A, e },
		} {
			if c, e := do(); e != api.ErrForm || len(c) != 0 {
				t.Error(name, f, c, e)
			}
		}
		for _, norm := range []func(api.Field, api.Elem) (api.Rat, api.Errno){numfield.Norm, numfield.Trace} {
			if x, e := norm(k, a); e != api.ErrForm || len(x.Num.Mag)+len(x.Den.Mag) != 0 {
				t.Error(f, x, e)
			}
		}
		if l, e := numfield.Real(k); e != api.ErrForm || len(l) != 0 {
			t.Error(f, l, e)
		}
		if sign, e := numfield.SignAt(k, a, -1); e != api.ErrForm || sign != 0 {
			t.Error(f, sign, e)
		}
		if s, e := numfield.Format(k, a); e != api.ErrForm || s != "" {
			t.Error(f, s, e)
		}
	}
}

// Nothing is written into an argument, and no result shares memory with one or another.
func TestMemory(t *testing.T) { // R3
	r := rand.New(rand.NewSource(6))
	for _, s := range fields {
		k := modulus(s)
		n := zpoly.Degree(k.Modulus)
		a, b := random(r, n+2), random(r, n)
		a = append(a, rational.Of(5))
		arguments := slices.Concat(k.Modulus, parts(a), parts(b))
		before := text(arguments)
		var results []api.Int
		keep := func(l []api.Rat, _ api.Errno) { results = append(results, parts(l)...) }
		keepElem := func(l api.Elem, e api.Errno) { keep(l, e) }
		keepPoly := func(l api.Poly, e api.Errno) { keep(l, e) }
		keepMatrix := func(m api.Matrix, e api.Errno) { keep(m.A, e) }
		keepRat := func(x api.Rat, e api.Errno) { keep([]api.Rat{x}, e) }
		keepElem(numfield.Normal(k, a))
		keepElem(numfield.Normal(k, b))
		keepElem(numfield.Add(k, a, b))
		keepElem(numfield.Add(k, nil, b))
		keepElem(numfield.Sub(k, b, nil))
		keepElem(numfield.Mul(k, a, b))
		keepElem(numfield.Mul(k, b, parse("1")))
		keepElem(numfield.Inverse(k, a))
		keepElem(numfield.Pow(k, a, 1))
		keepElem(numfield.Pow(k, a, -2))
		keepMatrix(numfield.Multiplication(k, a))
		keepMatrix(numfield.TraceForm(k))
		keepRat(numfield.Norm(k, b))
		keepRat(numfield.Trace(k, b))
		keepPoly(numfield.CharPoly(k, a))
		keepPoly(numfield.MinPoly(k, a))
		keepElem(numfield.Eval(k, api.Poly(b), a))
		l, e := numfield.Real(k)
		for _, i := range l {
			keep([]api.Rat{i.Lo, i.Hi}, e)
		}
		numfield.SignAt(k, a, 0)
		numfield.Format(k, a)
		numfield.Check(k)
		field, _ := numfield.New(k.Modulus)
		results = append(results, field.Modulus...)
		checkMemory(t, results)
		if text(arguments) != before {
			t.Fatal("an argument was changed")
		}
	}
}
