package qpoly_test

import (
	"math/big"
	"math/rand"
	"slices"
	"testing"

	"halfplane/api"
	"halfplane/bigint"
	"halfplane/qpoly"
	"halfplane/rational"
	"halfplane/zpoly"
)

func TestConversions(t *testing.T) { // P6.1
	r := rand.New(rand.NewSource(1))
	for i := range 2000 {
		f := randomPoly(r, 1+i%9, 2)
		x := toPoly(f)
		check(t, "Normal", qpoly.Normal(f), x)
		if qpoly.Degree(f) != len(x)-1 {
			t.Fatal(f, qpoly.Degree(f))
		}
		g, c := qpoly.Clear(f)
		checkRat(t, "Clear", c, toRat(c))
		check(t, "Clear", qpoly.Scale(qpoly.Of(g), c), x)
		if !slices.EqualFunc(g, zpoly.Primitive(g), func(a, b api.Int) bool { return a.Neg == b.Neg && slices.Equal(a.Mag, b.Mag) }) {
			t.Fatal("not primitive", f, g)
		}
	}
	for _, f := range []api.Poly{nil, {}, {api.Rat{}}, {api.Rat{Num: minusZero, Den: bigint.Of(2)}, api.Rat{Num: bigint.Of(7), Den: minusZero}}} {
		check(t, "Normal(0)", qpoly.Normal(f), nil)
		g, c := qpoly.Clear(f)
		if qpoly.Degree(f) != -1 || len(g) != 0 {
			t.Error(f, g)
		}
		checkRat(t, "Clear(0)", c, new(big.Rat))
	}
	g, c := qpoly.Clear(api.Poly{fraction(-1, 3), fraction(1, 2)})
	if zpoly.Format(g) != "3*x - 2" || rational.Format(c) != "1/6" {
		t.Error(g, c)
	}
	g, c = qpoly.Clear(api.Poly{fraction(4, 3), api.Rat{}, fraction(-6, 5)})
	if zpoly.Format(g) != "9*x^2 - 10" || rational.Format(c) != "-2/15" {
		t.Error(g, c)
	}
	g, c = qpoly.Clear(api.Poly{fraction(-4, 6)})
	if zpoly.Format(g) != "1" || rational.Format(c) != "-2/3" {
		t.Error(g, c)
	}
	unusual := api.ZPoly{{Mag: []uint32{5, 0, 0}}, {Neg: true, Mag: []uint32{2}}, minusZero}
	check(t, "Of", qpoly.Of(unusual), toPoly(whole(5, -2)))
	check(t, "Of", qpoly.Of(integral(0, 0)), nil)
}

func TestRing(t *testing.T) { // P6.2
	r := rand.New(rand.NewSource(2))
	for i := range 2000 {
		f, g, a := randomPoly(r, 1+i%9, 2), randomPoly(r, 1+i%7, 2), randomRat(r, 2)
		x, y := toPoly(f), toPoly(g)
		check(t, "Add", qpoly.Add(f, g), add(x, y, 1))
		check(t, "Sub", qpoly.Sub(f, g), add(x, y, -1))
		check(t, "Sub", qpoly.Sub(f, f), nil)
		check(t, "Mul", qpoly.Mul(f, g), mul(x, y))
		check(t, "Scale", qpoly.Scale(f, a), mul(x, trim(poly{toRat(a)})))
		value, slope := new(big.Rat), poly(nil)
		for _, c := range slices.Backward(x) {
			value.Mul(value, toRat(a)).Add(value, c)
		}
		for j := 1; j < len(x); j++ {
			slope = append(slope, new(big.Rat).Mul(big.NewRat(int64(j), 1), x[j]))
		}
		checkRat(t, "Eval", qpoly.Eval(f, a), value)
		check(t, "Derivative", qpoly.Derivative(f), slope)
	}
	checkRat(t, "Eval", qpoly.Eval(nil, rational.Of(3)), new(big.Rat))
	checkRat(t, "Eval", qpoly.Eval(whole(7, 1), api.Rat{Num: bigint.Of(5)}), big.NewRat(7, 1))
}

func TestDivMod(t *testing.T) { // P6.3
	r := rand.New(rand.NewSource(3))
	for i := range 2000 {
		f, g := randomPoly(r, 1+i%9, 2), randomPoly(r, 1+i%6, 1)
		x, y := toPoly(f), toPoly(g)
		q, rest, e := qpoly.DivMod(f, g)
		if len(y) == 0 {
			if e != api.ErrZero || q != nil || rest != nil {
				t.Fatal(f, g, e)
			}
			continue
		}
		if e != api.OK {
			t.Fatal(f, g, e)
		}
		want := remainder(x, y)
		check(t, "remainder", rest, want)
		check(t, "quotient", q, toPoly(q))
		check(t, "DivMod", qpoly.Add(qpoly.Mul(q, g), rest), x)
	}
	q, rest, e := qpoly.DivMod(whole(0, 0, 1), whole(1, 2))
	if e != api.OK {
		t.Error(e)
	}
	check(t, "quotient", q, poly{big.NewRat(-1, 4), big.NewRat(1, 2)})
	check(t, "remainder", rest, poly{big.NewRat(1, 4)})
	q, rest, e = qpoly.DivMod(nil, whole(5))
	if e != api.OK || len(q)+len(rest) != 0 {
		t.Error(q, rest, e)
	}
}

func TestGcd(t *testing.T) { // P6.4
	r := rand.New(rand.NewSource(4))
	for i := range 1500 {
		d := randomPoly(r, 1+i%4, 1)
		f, g := qpoly.Mul(d, randomPoly(r, 1+i%5, 2)), qpoly.Mul(d, randomPoly(r, 1+i%6, 1))
		if i%10 == 0 {
			f = qpoly.Mul(g, d)
		}
		if i%10 == 5 {
			g = qpoly.Scale(f, randomRat(r, 1))
		}
		checkXgcd(t, f, g)
	}
	d, u, v := qpoly.Xgcd(whole(-1, 0, 1), whole(1, 2))
	check(t, "d", d, toPoly(whole(1)))
	check(t, "u", u, poly{big.NewRat(-4, 3)})
	check(t, "v", v, poly{big.NewRat(-1, 3), big.NewRat(2, 3)})
	for _, c := range [][2]api.Poly{
		{nil, nil}, {nil, whole(0)}, {whole(4, 2), nil}, {nil, whole(4, 2)}, {whole(3), nil}, {nil, whole(-3)}, {whole(3), whole(5)}, {whole(3), whole(1, 2)}, {whole(1, 2), whole(3)},
		{whole(1, 2), whole(2, 4)}, {whole(0, 1), whole(0, 0, 3)}, {whole(0, 0, 3), whole(0, 1)}, {whole(-1, 0, 1), whole(1, 2, 1)}, {whole(1, 2, 1), whole(-1, 0, 1)}, {whole(1, 1), whole(2, 1)},
	} {
		checkXgcd(t, c[0], c[1])
	}
}

func checkXgcd(t *testing.T, f, g api.Poly) {
	t.Helper()
	x, y := toPoly(f), toPoly(g)
	want := divisor(x, y)
	check(t, "Gcd", qpoly.Gcd(f, g), want)
	d, u, v := qpoly.Xgcd(f, g)
	check(t, "Xgcd", d, want)
	check(t, "u", u, toPoly(u))
	check(t, "v", v, toPoly(v))
	check(t, "u * f + v * g", qpoly.Add(qpoly.Mul(u, f), qpoly.Mul(v, g)), want)
	switch {
	case len(y) == 0 && len(x) == 0:
		if len(u)+len(v) != 0 {
			t.Fatal(f, g, u, v)
		}
	case len(y) == 0:
		if len(u) != 1 || len(v) != 0 || toRat(u[0]).Cmp(new(big.Rat).Inv(x[len(x)-1])) != 0 {
			t.Fatal(f, g, u, v)
		}
	case len(y) == len(want) && len(u) != 0 || len(y) > len(want) && len(u)-1 >= len(y)-len(want):
		t.Fatal("degree of u", f, g, u)
	}
}

func TestInterpolate(t *testing.T) { // P6.5
	r := rand.New(rand.NewSource(5))
	for i := range 500 {
		l := make([]api.Point, r.Intn(8))
		different := map[string]bool{}
		for j := range l {
			l[j] = api.Point{X: randomRat(r, 1+i%2), Y: randomRat(r, 2)}
			different[toRat(l[j].X).String()] = true
		}
		f, e := qpoly.Interpolate(l)
		if len(different) < len(l) {
			if e != api.ErrExists || f != nil {
				t.Fatal(l, f, e)
			}
			continue
		}
		if e != api.OK || len(f) > len(l) {
			t.Fatal(l, f, e)
		}
		check(t, "Interpolate", f, toPoly(f))
		for _, p := range l {
			checkRat(t, "value", qpoly.Eval(f, p.X), toRat(p.Y))
		}
	}
	point := func(x, y int) api.Point { return api.Point{X: rational.Of(x), Y: rational.Of(y)} }
	f, e := qpoly.Interpolate([]api.Point{point(0, 1), point(1, 2), point(2, 5)})
	if e != api.OK {
		t.Error(e)
	}
	check(t, "Interpolate", f, toPoly(whole(1, 0, 1)))
	if f, e := qpoly.Interpolate(nil); e != api.OK || len(f) != 0 {
		t.Error(f, e)
	}
	if f, e := qpoly.Interpolate([]api.Point{{}}); e != api.OK || len(f) != 0 {
		t.Error(f, e)
	}
	// A point that occurs twice, and equal numbers in different representations.
	if f, e := qpoly.Interpolate([]api.Point{point(1, 1), point(2, 2), point(1, 1)}); e != api.ErrExists || f != nil {
		t.Error(f, e)
	}
	if f, e := qpoly.Interpolate([]api.Point{point(0, 1), {X: api.Rat{Num: bigint.Of(4)}}}); e != api.ErrExists || f != nil {
		t.Error(f, e)
	}
	if f, e := qpoly.Interpolate([]api.Point{{X: fraction(1, 2)}, {X: api.Rat{Num: bigint.Of(-3), Den: bigint.Of(-6)}}}); e != api.ErrExists || f != nil {
		t.Error(f, e)
	}
	var l []api.Point
	for i := range 65 {
		if i == 64 {
			f, e := qpoly.Interpolate(l)
			if e != api.OK || qpoly.Degree(f) != 63 {
				t.Error(qpoly.Degree(f), e)
			}
		}
		y, _ := rational.Pow(fraction(3, 2), i)
		l = append(l, api.Point{X: fraction(i-30, 7), Y: y})
	}
	if f, e := qpoly.Interpolate(l); e != api.ErrLarge || f != nil {
		t.Error(e)
	}
	l[3] = l[4]
	if f, e := qpoly.Interpolate(l); e != api.ErrLarge || f != nil {
		t.Error(e)
	}
	if f, e := qpoly.Interpolate(l[:64]); e != api.ErrExists || f != nil {
		t.Error(e)
	}
}

// fromRoots returns the polynomial with the roots and the leading coefficient c.
func fromRoots(roots []api.Rat, c api.Rat) api.Poly {
	f := api.Poly{c}
	for _, a := range roots {
		f = qpoly.Mul(f, api.Poly{rational.Neg(a), rational.Of(1)})
	}
	return f
}

func checkSums(t *testing.T, got []api.Rat, roots []api.Rat) {
	t.Helper()
	for i, s := range got {
		want := new(big.Rat)
		for _, a := range roots {
			power := big.NewRat(1, 1)
			for range i + 1 {
				power.Mul(power, toRat(a))
			}
			want.Add(want, power)
		}
		checkRat(t, "power sum", s, want)
	}
}

func TestPowerSums(t *testing.T) { // P6.6
	r := rand.New(rand.NewSource(6))
	for range 300 {
		roots := make([]api.Rat, r.Intn(7))
		for i := range roots {
			roots[i] = randomRat(r, 1)
		}
		f := fromRoots(roots, fraction(1+r.Intn(5), -3))
		n := r.Intn(12)
		l, e := qpoly.PowerSums(append(f, api.Rat{}), n)
		if e != api.OK || len(l) != n {
			t.Fatal(f, n, l, e)
		}
		checkSums(t, l, roots)
		l, _ = qpoly.PowerSums(f, len(roots))
		g, e := qpoly.FromPowerSums(l)
		if e != api.OK {
			t.Fatal(l, e)
		}
		check(t, "FromPowerSums", g, monic(toPoly(f)))
	}
	l, e := qpoly.PowerSums(whole(-2, -2, 2), 3)
	if e != api.OK || len(l) != 3 || rational.Format(l[0])+rational.Format(l[1])+rational.Format(l[2]) != "134" {
		t.Error(l, e)
	}
	f, e := qpoly.FromPowerSums(whole(1, 3))
	if e != api.OK {
		t.Error(e)
	}
	check(t, "FromPowerSums", f, toPoly(whole(-1, -1, 1)))
	for _, c := range []struct {
		f api.Poly
		n int
		e api.Errno
	}{{nil, 3, api.ErrZero}, {whole(0, 0), -1, api.ErrZero}, {whole(1, 1), -1, api.ErrRange}, {whole(1, 1), 65, api.ErrRange}, {whole(5), 65, api.ErrRange}} {
		if l, e := qpoly.PowerSums(c.f, c.n); e != c.e || l != nil {
			t.Error(c, l, e)
		}
	}
	l, e = qpoly.PowerSums(whole(5), 4)
	if e != api.OK || len(l) != 4 {
		t.Error(l, e)
	}
	checkSums(t, l, nil)
	l, e = qpoly.PowerSums(whole(-4, 2), 64)
	if e != api.OK || len(l) != 64 {
		t.Error(l, e)
	}
	checkSums(t, l, whole(2))
	if l, e := qpoly.PowerSums(whole(1, 2, 3), 0); e != api.OK || len(l) != 0 {
		t.Error(l, e)
	}
	f, e = qpoly.FromPowerSums(nil)
	if e != api.OK {
		t.Error(e)
	}
	check(t, "FromPowerSums", f, toPoly(whole(1)))
	f, e = qpoly.FromPowerSums(make([]api.Rat, 64))
	if e != api.OK {
		t.Error(e)
	}
	check(t, "FromPowerSums", f, toPoly(append(make(api.Poly, 64), rational.Of(1))))
	if f, e := qpoly.FromPowerSums(make([]api.Rat, 65)); e != api.ErrLarge || f != nil {
		t.Error(f, e)
	}
}

func TestConsequences(t *testing.T) { // P6.7
	r := rand.New(rand.NewSource(7))
	for range 200 {
		f, g := append(randomPoly(r, 6, 1), rational.Of(1)), append(randomPoly(r, 5, 1), fraction(-2, 3))
		d := qpoly.Degree(f)
		s, e := qpoly.PowerSums(f, d)
		if e != api.OK {
			t.Fatal(f, e)
		}
		for n := 1; n <= d; n++ {
			sum := rational.Add(s[n-1], rational.Mul(rational.Of(n), f[d-n]))
			for i := 1; i < n; i++ {
				sum = rational.Add(sum, rational.Mul(f[d-i], s[n-1-i]))
			}
			if rational.Sign(sum) != 0 {
				t.Fatal("Newton's identity", f, n)
			}
		}
		a, _ := qpoly.PowerSums(f, 9)
		b, _ := qpoly.PowerSums(g, 9)
		c, _ := qpoly.PowerSums(qpoly.Mul(f, g), 9)
		for i := range c {
			checkRat(t, "sum", c[i], toRat(rational.Add(a[i], b[i])))
		}
		l, _ := qpoly.PowerSums(g, qpoly.Degree(g))
		h, e := qpoly.FromPowerSums(l)
		if e != api.OK {
			t.Fatal(e)
		}
		check(t, "FromPowerSums", h, monic(toPoly(g)))
	}
}

// results returns all lists of fractions that the functions return.
func results(f, g api.Poly, a api.Rat) [][]api.Rat {
	q, rest, _ := qpoly.DivMod(f, g)
	few, all, _ := qpoly.DivMod(g, f)
	d, u, v := qpoly.Xgcd(f, g)
	d1, u1, v1 := qpoly.Xgcd(g, f)
	d2, u2, _ := qpoly.Xgcd(f, nil)
	d3, _, v3 := qpoly.Xgcd(nil, f)
	h, _ := qpoly.Interpolate([]api.Point{{X: a, Y: f[0]}, {X: rational.Add(a, rational.Of(1)), Y: g[0]}})
	one, _ := qpoly.Interpolate([]api.Point{{X: a, Y: f[0]}})
	sums, _ := qpoly.PowerSums(f, 5)
	back, _ := qpoly.FromPowerSums(f)
	z, c := qpoly.Clear(f)
	return [][]api.Rat{qpoly.Normal(f), qpoly.Add(f, g), qpoly.Sub(f, g), qpoly.Mul(f, g), qpoly.Scale(f, a), qpoly.Derivative(f), q, rest, few, all, d, u, v, d1, u1, v1, d2, u2, d3, v3,
		h, one, sums, back, qpoly.Of(z), {c}, {qpoly.Eval(f, a)}, qpoly.Gcd(f, g), qpoly.Add(f, nil), qpoly.Scale(f, rational.Of(1))}
}

func TestMemory(t *testing.T) { // R3, R4
	r := rand.New(rand.NewSource(8))
	for range 60 {
		f, g, a := append(randomPoly(r, 6, 2), fraction(3, 7), api.Rat{}), append(randomPoly(r, 4, 2), rational.Of(-2)), randomRat(r, 2)
		before := [3]string{text(f), text(g), text(api.Poly{a})}
		first, second := results(f, g, a), results(f, g, a)
		for i, l := range first {
			overwriteAll(l)
			for j := i + 1; j < len(first); j++ {
				if text(first[j]) != text(second[j]) {
					t.Fatal("shared memory", i, j)
				}
			}
			if len(l) > 0 && text(l) == text(second[i]) {
				t.Fatal("the same memory", i)
			}
		}
		if before != [3]string{text(f), text(g), text(api.Poly{a})} {
			t.Fatal("an argument was changed")
		}
		for i, l := range results(f, g, a) {
			if text(l) != text(second[i]) {
				t.Fatal("a result depends on earlier calls", i)
			}
		}
	}
	z := integral(3, -6)
	f := qpoly.Of(z)
	overwriteAll(f)
	if !slices.Equal(z[1].Mag, []uint32{6}) {
		t.Error("Of")
	}
	primitive, c := qpoly.Clear(whole(3, 5))
	overwriteAll(api.Poly{c})
	if zpoly.Format(primitive) != "5*x + 3" {
		t.Error("Clear")
	}
}

func TestGreatPolynomials(t *testing.T) { // P1
	r := rand.New(rand.NewSource(9))
	random := func(n, digits int) api.Poly {
		f := make(api.Poly, n+1)
		for i := range f {
			f[i] = api.Rat{Num: api.Int{Neg: r.Intn(2) == 0, Mag: make([]uint32, digits)}, Den: bigint.Of(1 + r.Intn(20))}
			for j := range f[i].Num.Mag {
				f[i].Num.Mag[j] = r.Uint32()
			}
		}
		return f
	}
	f, g := random(30, 3), random(29, 3)
	d, u, v := qpoly.Xgcd(f, g)
	check(t, "Xgcd", d, toPoly(whole(1)))
	check(t, "Xgcd", qpoly.Add(qpoly.Mul(u, f), qpoly.Mul(v, g)), toPoly(whole(1)))
	f = qpoly.Mul(random(40, 2), g)
	q, rest, e := qpoly.DivMod(qpoly.Add(f, whole(1, 1)), g)
	if e != api.OK || qpoly.Degree(q) != 40 {
		t.Error(e)
	}
	check(t, "DivMod", rest, toPoly(whole(1, 1)))
	// The power of the leading coefficient by which DivMod multiplies is beyond the limit of powers.
	lead := api.Int{Mag: make([]uint32, 1000)}
	lead.Mag[999] = 1 << 31
	q, rest, e = qpoly.DivMod(append(make(api.Poly, 64), rational.Of(1)), api.Poly{rational.Of(1), rational.Whole(lead)})
	if e != api.OK || qpoly.Degree(q) != 63 || qpoly.Degree(rest) != 0 {
		t.Error(e)
	}
	checkRat(t, "lead", q[63], new(big.Rat).SetFrac(big.NewInt(1), toInt(lead)))
}
