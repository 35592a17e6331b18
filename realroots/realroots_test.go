package realroots_test

import (
	"math/big"
	"math/rand"
	"slices"
	"testing"

	"halfplane/api"
	"halfplane/bigint"
	"halfplane/rational"
	"halfplane/realroots"
	"halfplane/zpoly"
)

// TestLimits calls every function with polynomials that are 0, or too large, or just not.
func TestLimits(t *testing.T) { // P8.1 to P8.5
	i := interval(-1, 1, 1)
	x := of(0, 1)
	for _, c := range []struct {
		f api.ZPoly
		e api.Errno
	}{
		{nil, api.ErrZero}, {api.ZPoly{minusZero, {}}, api.ErrZero}, {make(api.ZPoly, 100), api.ErrZero}, {append(make(api.ZPoly, 33), bigint.Of(1)), api.ErrLarge}, {append(make(api.ZPoly, 32), bigint.Of(1), minusZero), api.OK},
		{api.ZPoly{{}, greatest(4097)}, api.ErrLarge}, {api.ZPoly{{}, greatest(4096)}, api.OK}, {unusual(api.ZPoly{{}, bigint.Neg(greatest(4096))}), api.OK}, {api.ZPoly{greatest(4097)}, api.ErrLarge},
	} {
		if l, e := realroots.Chain(c.f); e != c.e || e != api.OK && l != nil {
			t.Error("Chain", c.e, e)
		}
		if n, e := realroots.Total(c.f); e != c.e || e != api.OK && n != 0 {
			t.Error("Total", c.e, n, e)
		}
		if n, e := realroots.Count(c.f, i); e != c.e || e != api.OK && n != 0 {
			t.Error("Count", c.e, n, e)
		}
		if b, e := realroots.Bound(c.f); e != c.e || e != api.OK && len(b.Mag) > 0 {
			t.Error("Bound", c.e, b, e)
		}
		if l, e := realroots.Isolate(c.f); e != c.e || e != api.OK && l != nil {
			t.Error("Isolate", c.e, l, e)
		}
		if j, e := realroots.Refine(c.f, i, 3); e != c.e || e != api.OK && !sameBytes(j, api.Interval{}) {
			t.Error("Refine", c.e, j, e)
		}
		if s, e := realroots.SignAt(of(1, 1), c.f, i); e != c.e || e != api.OK && s != 0 {
			t.Error("SignAt", c.e, s, e)
		}
		if s, e := realroots.Compare(c.f, i, of(-1, 2), i); e != c.e || e != api.OK && s != 0 {
			t.Error("Compare", c.e, s, e)
		}
		if s, e := realroots.Compare(of(-1, 2), i, c.f, i); e != c.e || e != api.OK && s != 0 {
			t.Error("Compare", c.e, s, e)
		}
		if s, e := realroots.SignAt(c.f, x, i); (e != api.OK) != (c.e == api.ErrLarge) || s != 0 {
			t.Error("SignAt of another polynomial", c.e, s, e)
		}
	}
	// These errors come first.
	none, wrong := interval(5, 6, 1), interval(2, 1, 1)
	large := append(make(api.ZPoly, 33), bigint.Of(1))
	if _, e := realroots.Count(large, wrong); e != api.ErrLarge {
		t.Error(e)
	}
	if _, e := realroots.Refine(nil, none, -1); e != api.ErrZero {
		t.Error(e)
	}
	if _, e := realroots.SignAt(large, nil, none); e != api.ErrZero {
		t.Error(e)
	}
	if _, e := realroots.SignAt(large, x, none); e != api.ErrLarge {
		t.Error(e)
	}
	for _, c := range []struct {
		f    api.ZPoly
		i    api.Interval
		g    api.ZPoly
		j    api.Interval
		want api.Errno
	}{{x, none, nil, i, api.ErrMember}, {x, i, nil, none, api.ErrZero}, {x, i, large, none, api.ErrLarge}, {x, i, x, none, api.ErrMember}, {x, none, x, i, api.ErrMember}, {large, i, nil, i, api.ErrLarge}, {nil, none, large, i, api.ErrZero}} {
		if s, e := realroots.Compare(c.f, c.i, c.g, c.j); e != c.want || s != 0 {
			t.Error(c, s, e)
		}
	}
}

func sameBytes(i, j api.Interval) bool {
	same := func(a, b api.Int) bool { return a.Neg == b.Neg && slices.Equal(a.Mag, b.Mag) }
	return same(i.Lo.Num, j.Lo.Num) && same(i.Lo.Den, j.Lo.Den) && same(i.Hi.Num, j.Hi.Num) && same(i.Hi.Den, j.Hi.Den)
}

// sturm returns Sturm's chain by its definition, with fractions.
func sturm(f api.ZPoly) [][]*big.Rat {
	primitive := func(f []*big.Rat) []*big.Rat {
		num, den := new(big.Int), big.NewInt(1)
		for _, a := range f {
			den.Mul(den, new(big.Int).Quo(a.Denom(), new(big.Int).GCD(nil, nil, den, a.Denom())))
		}
		for _, a := range f {
			num.GCD(nil, nil, num, new(big.Int).Abs(new(big.Rat).Mul(a, new(big.Rat).SetInt(den)).Num()))
		}
		g := make([]*big.Rat, len(f))
		for i, a := range f {
			g[i] = new(big.Rat).Mul(a, new(big.Rat).SetFrac(den, num))
		}
		return g
	}
	var first, second []*big.Rat
	for i, a := range zpoly.Normal(f) {
		first = append(first, new(big.Rat).SetInt(toInt(a)))
		if i > 0 {
			second = append(second, new(big.Rat).Mul(first[i], big.NewRat(int64(i), 1)))
		}
	}
	l := [][]*big.Rat{primitive(first)}
	for next := second; len(next) > 0; {
		l = append(l, primitive(next))
		r, g := slices.Clone(l[len(l)-2]), l[len(l)-1]
		for len(r) >= len(g) {
			c := new(big.Rat).Quo(r[len(r)-1], g[len(g)-1])
			for i, b := range g {
				r[len(r)-len(g)+i] = new(big.Rat).Sub(r[len(r)-len(g)+i], new(big.Rat).Mul(c, b))
			}
			for len(r) > 0 && r[len(r)-1].Sign() == 0 {
				r = r[:len(r)-1]
			}
		}
		next = nil
		for _, a := range r {
			next = append(next, new(big.Rat).Neg(a))
		}
	}
	return l
}

func TestChain(t *testing.T) { // P8.1
	for _, c := range [][]string{
		{"x^3 - 3*x + 1", "x^3 - 3*x + 1", "x^2 - 1", "2*x - 1", "1"}, {"7", "1"}, {"-7", "-1"}, {"-2*x + 4", "-x + 2", "-1"}, {"x^2", "x^2", "x"}, {"x^2 + 1", "x^2 + 1", "x", "-1"},
		{"-x^2 - 1", "-x^2 - 1", "-x", "1"}, {"x^4 - 2*x^2 + 1", "x^4 - 2*x^2 + 1", "x^3 - x", "x^2 - 1"}, {"6*x^3", "x^3", "x^2"},
	} {
		l, e := realroots.Chain(parse(t, c[0]))
		if e != api.OK || !slices.Equal(forms(l), c[1:]) {
			t.Error(c, forms(l), e)
		}
	}
	r := rand.New(rand.NewSource(1))
	for range 400 {
		f := make(api.ZPoly, 1+r.Intn(9))
		for i := range f {
			f[i] = bigint.Of((r.Intn(9) - 4) * (1 + r.Intn(2)*r.Intn(1<<30)))
		}
		f = zpoly.Mul(f, of(r.Intn(5)-2, r.Intn(3)))
		if zpoly.Degree(f) < 0 {
			continue
		}
		l, e := realroots.Chain(unusual(f))
		want := sturm(f)
		if e != api.OK || len(l) != len(want) {
			t.Fatal(zpoly.Format(f), forms(l), e)
		}
		for i, g := range l {
			ok := len(g) == len(want[i])
			for j := range g {
				ok = ok && normalized(g[j]) && want[i][j].IsInt() && toInt(g[j]).Cmp(want[i][j].Num()) == 0
			}
			if !ok {
				t.Fatal(zpoly.Format(f), forms(l), want)
			}
		}
	}
}

// forms returns polynomials as texts.
func forms(l []api.ZPoly) []string {
	var s []string
	for _, f := range l {
		s = append(s, zpoly.Format(f))
	}
	return s
}

func TestCount(t *testing.T) { // P8.2
	for _, c := range []struct {
		f    string
		i    api.Interval
		want int
		e    api.Errno
	}{
		{"x^2 - 2", interval(0, 2, 1), 1, api.OK}, {"x^2 - 2", interval(-2, 2, 1), 2, api.OK}, {"x", interval(0, 1, 1), 0, api.OK}, {"x", interval(-1, 0, 1), 1, api.OK}, {"x", interval(0, 0, 1), 0, api.OK},
		{"x", interval(1, 0, 1), 0, api.ErrRange}, {"x^3 - x", interval(-1, 1, 1), 2, api.OK}, {"x^6", interval(-1, 0, 1), 1, api.OK}, {"x^4 + 1", interval(-9, 9, 1), 0, api.OK}, {"5", interval(-9, 9, 1), 0, api.OK},
		{"x", api.Interval{Lo: api.Rat{Num: bigint.Of(3)}, Hi: rational.Of(1)}, 0, api.OK}, {"x", api.Interval{Lo: rational.Of(-3), Hi: api.Rat{Num: bigint.Of(-5), Den: minusZero}}, 1, api.OK},
		{"x", api.Interval{Lo: rational.Of(1), Hi: api.Rat{Num: bigint.Of(7)}}, 0, api.ErrRange},
	} {
		if n, e := realroots.Count(parse(t, c.f), c.i); n != c.want || e != c.e {
			t.Error(c, n, e)
		}
	}
	for _, c := range []struct {
		f    string
		want int
	}{{"x^3 - 2", 1}, {"x^3 - 3*x + 1", 3}, {"7", 0}, {"x", 1}, {"x^8", 1}, {"x^2 + 1", 0}, {"x^4 - 4*x^2 + 4", 2}} {
		if n, e := realroots.Total(parse(t, c.f)); n != c.want || e != api.OK {
			t.Error(c, n, e)
		}
	}
	r := rand.New(rand.NewSource(2))
	for range 400 {
		k := randomKnown(r, 6)
		for range 4 {
			i := k.randomInterval(r)
			n, e := realroots.Count(unusual(k.poly), scaled(i, []int{1, -3, 7}[r.Intn(3)]))
			if rational.Cmp(i.Lo, i.Hi) > 0 {
				if n != 0 || e != api.ErrRange {
					t.Fatal(zpoly.Format(k.poly), format(i), n, e)
				}
			} else if n != len(k.in(i)) || e != api.OK {
				t.Fatal(zpoly.Format(k.poly), format(i), n, e)
			}
		}
		if n, e := realroots.Total(k.poly); n != len(k.in(interval(-1000, 1000, 1))) || e != api.OK {
			t.Fatal(zpoly.Format(k.poly), n, e)
		}
	}
}

func TestBound(t *testing.T) { // P8.3
	for _, c := range []struct {
		f    string
		want int
	}{{"x^2 - 2", 4}, {"7", 2}, {"-1", 2}, {"x", 2}, {"x + 1", 4}, {"-x^2 + 3", 8}, {"x - 6", 8}, {"x - 7", 16}, {"3*x^5 + x - 2", 2}, {"2*x^2 - 6*x + 1", 8}, {"2*x^2 - 5*x + 1", 4}, {"x^3 + 100*x^2 - 3", 128}, {"100*x + 1", 2}, {"10*x - 10", 4}} {
		b, e := realroots.Bound(parse(t, c.f))
		if n, ok := bigint.Small(b); e != api.OK || !ok || n != c.want {
			t.Error(c, b, e)
		}
	}
	b, e := realroots.Bound(api.ZPoly{greatest(4096), {}, bigint.Of(-1)})
	if want := new(big.Int).Lsh(big.NewInt(1), 4097); e != api.OK || toInt(b).Cmp(want) != 0 {
		t.Error(b, e)
	}
}

func TestIsolate(t *testing.T) { // P8.4
	for _, c := range [][2]string{
		{"x^2 - 2", "(-4, 0] (0, 4] "}, {"x^2 - x", "(-4, 0] (0, 4] "}, {"x", "(-2, 2] "}, {"7", ""}, {"x^2 + 1", ""}, {"x - 1", "(-4, 4] "}, {"x^5", "(-2, 2] "}, {"x^2 - 3*x + 2", "(0, 1] (1, 2] "},
		{"x^3 - 3*x + 1", "(-8, 0] (0, 1] (1, 2] "}, {"x^4 - 2*x^2 + 1", "(-4, 0] (0, 4] "}, {"4*x^2 - 8*x + 3", "(0, 1] (1, 2] "},
	} {
		l, e := realroots.Isolate(parse(t, c[0]))
		if format(l...) != c[1] || e != api.OK {
			t.Error(c, format(l...), e)
		}
	}
	r := rand.New(rand.NewSource(3))
	for range 300 {
		k := randomKnown(r, 7)
		l, e := realroots.Isolate(unusual(k.poly))
		b, _ := realroots.Bound(k.poly)
		want := k.isolate(api.Interval{Lo: rational.Whole(bigint.Neg(b)), Hi: rational.Whole(b)})
		if e != api.OK || !slices.EqualFunc(l, want, sameInterval) || slices.ContainsFunc(l, func(i api.Interval) bool { return !isNormal(i) }) {
			t.Fatal(zpoly.Format(k.poly), format(l...), e, format(want...))
		}
	}
}

func TestRefine(t *testing.T) { // P8.4
	f := of(-2, 0, 1)
	for _, c := range []struct {
		f    string
		i    api.Interval
		n    int
		want string
		e    api.Errno
	}{
		{"x^2 - 2", interval(0, 4, 1), 2, "(1, 2] ", api.OK}, {"x^2 - 2", interval(0, 4, 1), 0, "(0, 4] ", api.OK}, {"x", interval(-1, 1, 1), 1, "(-1, 0] ", api.OK}, {"x", interval(-1, 1, 1), 3, "(-1/4, 0] ", api.OK},
		{"x - 1", interval(0, 1, 1), 2, "(3/4, 1] ", api.OK}, {"x^2 - x", interval(0, 1, 1), 1, "(1/2, 1] ", api.OK}, {"x^3", interval(-3, 3, 2), 1, "(-3/2, 0] ", api.OK},
		{"x^2 - 2", interval(0, 4, 1), -1, "", api.ErrRange}, {"x^2 - 2", interval(0, 4, 1), 1001, "", api.ErrRange}, {"x^2 - 2", interval(-4, 4, 1), 1001, "", api.ErrRange}, {"x^2 - 2", interval(-4, 4, 1), 1, "", api.ErrMember},
		{"x^2 - 2", interval(2, 4, 1), 0, "", api.ErrMember}, {"x^2 - 2", interval(4, 0, 1), 0, "", api.ErrMember}, {"x", interval(0, 0, 1), 0, "", api.ErrMember}, {"x", interval(0, 1, 1), 0, "", api.ErrMember}, {"7", interval(0, 1, 1), 0, "", api.ErrMember},
	} {
		i, e := realroots.Refine(parse(t, c.f), c.i, c.n)
		if e != c.e || e == api.OK && format(i) != c.want || e != api.OK && !sameBytes(i, api.Interval{}) {
			t.Error(c, format(i), e)
		}
	}
	// A zero with the denominator 0, and ends that are not in lowest terms.
	i, e := realroots.Refine(f, api.Interval{Lo: api.Rat{Num: bigint.Of(5)}, Hi: api.Rat{Num: bigint.Of(-8), Den: bigint.Of(-2)}}, 0)
	if e != api.OK || !isNormal(i) || format(i) != "(0, 4] " {
		t.Error(i, e)
	}
	i, e = realroots.Refine(f, interval(0, 4, 1), 1000)
	length := new(big.Rat).Sub(toRat(i.Hi), toRat(i.Lo))
	square := func(a api.Rat) *big.Rat { return new(big.Rat).Mul(toRat(a), toRat(a)) }
	if e != api.OK || !isNormal(i) || length.Denom().BitLen() != 999 || square(i.Lo).Cmp(big.NewRat(2, 1)) >= 0 || square(i.Hi).Cmp(big.NewRat(2, 1)) <= 0 {
		t.Error(i, e)
	}
	r := rand.New(rand.NewSource(4))
	for range 600 {
		k := randomKnown(r, 5)
		i, n := k.randomInterval(r), r.Intn(20)
		got, e := realroots.Refine(unusual(k.poly), scaled(i, -6), n)
		if len(k.in(i)) != 1 {
			if e != api.ErrMember || !sameBytes(got, api.Interval{}) {
				t.Fatal(zpoly.Format(k.poly), format(i), format(got), e)
			}
			continue
		}
		for range n {
			left, right := halves(i)
			i = right
			if len(k.in(left)) == 1 {
				i = left
			}
		}
		if e != api.OK || !isNormal(got) || !sameInterval(got, i) {
			t.Fatal(zpoly.Format(k.poly), format(i), format(got), e)
		}
	}
}

func TestSignAt(t *testing.T) { // P8.5
	for _, c := range []struct {
		g, f string
		i    api.Interval
		want int
		e    api.Errno
	}{
		{"x - 1", "x^2 - 2", interval(0, 4, 1), 1, api.OK}, {"x - 2", "x^2 - 2", interval(0, 4, 1), -1, api.OK}, {"x^2 - 2", "x^2 - 2", interval(0, 4, 1), 0, api.OK}, {"0", "x^2 - 2", interval(0, 4, 1), 0, api.OK},
		{"-5", "x^2 - 2", interval(0, 4, 1), -1, api.OK}, {"x^4 - 4", "x^2 - 2", interval(0, 4, 1), 0, api.OK}, {"1000000*x - 1414213", "x^2 - 2", interval(0, 4, 1), 1, api.OK}, {"1000000*x - 1414214", "x^2 - 2", interval(0, 4, 1), -1, api.OK},
		{"x", "x^2 - 2", interval(-4, 4, 1), 0, api.ErrMember}, {"x", "x^2 - 2", interval(4, 0, 1), 0, api.ErrMember}, {"0", "x^2 - 2", interval(2, 3, 1), 0, api.ErrMember}, {"x", "7", interval(2, 3, 1), 0, api.ErrMember},
		{"x", "x", interval(-1, 0, 1), 0, api.OK}, {"x", "x - 1", interval(0, 1, 1), 1, api.OK}, {"x^2 - x", "x^2 - 1", interval(0, 4, 1), 0, api.OK}, {"x^2 - x", "x^2 - 1", interval(-4, 0, 1), 1, api.OK},
		{"x^2 - x", "2*x - 1", interval(0, 4, 1), -1, api.OK}, {"x^2 + 2*x", "x^2 - 2", interval(0, 2, 1), 1, api.OK},
	} {
		if s, e := realroots.SignAt(parse(t, c.g), parse(t, c.f), c.i); s != c.want || e != c.e {
			t.Error(c, s, e)
		}
	}
	r := rand.New(rand.NewSource(5))
	zeros := 0
	for range 800 {
		k, l := randomKnown(r, 4), randomKnown(r, 5)
		if r.Intn(3) == 0 {
			l = known{zpoly.Mul(l.poly, k.poly), slices.Concat(l.roots, k.roots)}
		}
		i := k.randomInterval(r)
		s, e := realroots.SignAt(unusual(l.poly), unusual(k.poly), scaled(i, 5))
		a := k.in(i)
		if len(a) != 1 {
			if s != 0 || e != api.ErrMember {
				t.Fatal(zpoly.Format(k.poly), format(i), s, e)
			}
			continue
		}
		if s != l.signAt(a[0]) || e != api.OK {
			t.Fatal(zpoly.Format(l.poly), zpoly.Format(k.poly), format(i), s, e)
		}
		if s == 0 {
			zeros++
		}
	}
	if zeros < 10 {
		t.Error("too few common roots", zeros)
	}
}

func TestCompare(t *testing.T) { // P8.5
	for _, c := range []struct {
		f    string
		i    api.Interval
		g    string
		j    api.Interval
		want int
	}{
		{"x^2 - 2", interval(0, 4, 1), "x^2 - 3", interval(0, 4, 1), -1}, {"x^2 - 3", interval(0, 4, 1), "x^2 - 2", interval(0, 4, 1), 1}, {"x^2 - 2", interval(0, 4, 1), "x^4 - 4", interval(1, 2, 1), 0},
		{"x^2 - 2", interval(-4, 0, 1), "x^2 - 2", interval(0, 4, 1), -1}, {"x^2 - 2", interval(0, 4, 1), "x^2 - 2", interval(-4, 0, 1), 1}, {"x", interval(-1, 0, 1), "x - 1", interval(0, 1, 1), -1},
		{"x", interval(-1, 0, 1), "x", interval(-1, 1, 1), 0}, {"x^2 - x", interval(-1, 0, 1), "x^2 - x", interval(0, 1, 1), -1}, {"x^2 - 2", interval(0, 4, 1), "1000000*x - 1414213", interval(0, 9, 1), 1},
	} {
		if s, e := realroots.Compare(parse(t, c.f), c.i, parse(t, c.g), c.j); s != c.want || e != api.OK {
			t.Error(c, s, e)
		}
	}
	r := rand.New(rand.NewSource(6))
	equal, compared := 0, 0
	for range 3000 {
		k, l := randomKnown(r, 3), randomKnown(r, 3)
		if r.Intn(3) == 0 {
			l = known{zpoly.Mul(l.poly, k.poly), slices.Concat(l.roots, k.roots)}
		}
		i, j := k.randomIsolating(r), l.randomIsolating(r)
		a, b := k.in(i), l.in(j)
		s, e := realroots.Compare(unusual(k.poly), scaled(i, -2), unusual(l.poly), j)
		if len(a) != 1 || len(b) != 1 {
			if s != 0 || e != api.ErrMember {
				t.Fatal(zpoly.Format(k.poly), format(i), zpoly.Format(l.poly), format(j), s, e)
			}
			continue
		}
		want := a[0].cmp(b[0])
		if want = max(-1, min(want, 1)); s != want || e != api.OK {
			t.Fatal(zpoly.Format(k.poly), format(i), zpoly.Format(l.poly), format(j), s, e)
		}
		compared++
		if s == 0 {
			equal++
		}
	}
	if equal < 20 || compared < 300 {
		t.Error("too few cases", equal, compared)
	}
}

func TestConsequences(t *testing.T) { // P8.6
	r := rand.New(rand.NewSource(7))
	changes := func(values []int) int {
		n, last := 0, 0
		for _, v := range values {
			if v*last < 0 {
				n++
			}
			if v != 0 {
				last = v
			}
		}
		return n
	}
	for range 300 {
		k := randomKnown(r, 5)
		// Cauchy
		b, _ := realroots.Bound(k.poly)
		all := api.Interval{Lo: rational.Whole(bigint.Neg(b)), Hi: rational.Whole(b)}
		if total, _ := realroots.Total(k.poly); len(k.in(all)) != total {
			t.Fatal("bound", zpoly.Format(k.poly), b)
		}
		// Descartes
		var signs []int
		for _, c := range k.poly {
			signs = append(signs, bigint.Sign(c))
		}
		positive := 0
		for _, a := range k.roots {
			if a.sign > 0 {
				positive++
			}
		}
		if n := changes(signs); n < positive || (n-positive)%2 != 0 {
			t.Fatal("signs", zpoly.Format(k.poly))
		}
		// Sturm
		_, l, _ := zpoly.SquareFree(k.poly)
		f := of(1)
		for _, x := range l {
			f = zpoly.Mul(f, x.Poly)
		}
		chain, _ := realroots.Chain(f)
		i := k.randomInterval(r)
		if rational.Cmp(i.Lo, i.Hi) >= 0 {
			continue
		}
		var low, high []int
		for _, g := range chain {
			low = append(low, rational.Sign(zpoly.Eval(g, i.Lo)))
			high = append(high, rational.Sign(zpoly.Eval(g, i.Hi)))
		}
		if n, _ := realroots.Count(k.poly, i); n != changes(low)-changes(high) {
			t.Fatal("chain", zpoly.Format(k.poly), format(i), n)
		}
	}
}

// TestManyRoots uses polynomials of the greatest degree, and close roots.
func TestManyRoots(t *testing.T) { // P1
	wilkinson := of(1)
	for i := range 32 {
		wilkinson = zpoly.Mul(wilkinson, of(-i, 1))
	}
	before, chebyshev := of(1), of(0, 1)
	for range 31 {
		before, chebyshev = chebyshev, zpoly.Sub(zpoly.Mul(of(0, 2), chebyshev), before)
	}
	for _, f := range []api.ZPoly{wilkinson, chebyshev} {
		l, e := realroots.Isolate(f)
		if e != api.OK || len(l) != 32 {
			t.Fatal(format(l...), e)
		}
		for i := range l {
			if n, _ := realroots.Count(f, l[i]); n != 1 {
				t.Error(format(l[i]), n)
			}
			if i > 0 {
				if s, e := realroots.Compare(f, l[i-1], f, l[i]); s != -1 || e != api.OK {
					t.Error(i, s, e)
				}
			}
			if s, e := realroots.SignAt(zpoly.Derivative(f), f, l[i]); s != 1-2*((31-i)%2) || e != api.OK {
				t.Error(i, s, e)
			}
		}
	}
	// Two roots close to 1/1000, whose distance is about 10^-46 (Mignotte).
	f := zpoly.Sub(append(make(api.ZPoly, 30), bigint.Of(1)), zpoly.Scale(zpoly.Mul(of(-1, 1000), of(-1, 1000)), bigint.Of(2)))
	l, e := realroots.Isolate(f)
	if e != api.OK || len(l) != 4 {
		t.Fatal(format(l...), e)
	}
	if s, e := realroots.SignAt(of(-1, 1000), f, l[1]); s != -1 || e != api.OK {
		t.Error(s, e)
	}
	if s, e := realroots.SignAt(of(-1, 1000), f, l[2]); s != 1 || e != api.OK {
		t.Error(s, e)
	}
}

func TestMemory(t *testing.T) { // R3, R4
	f, g := unusual(parse(t, "6*x^4 - 30*x^2 + 36")), unusual(parse(t, "x^3 - x"))
	i, j := scaled(interval(3, 4, 2), 5), scaled(interval(0, 4, 1), -3)
	before := text(append([]api.Interval{i, j}, asIntervals(f, g)...))
	results := func() []api.Interval {
		chain, _ := realroots.Chain(f)
		l, _ := realroots.Isolate(f)
		one, _ := realroots.Refine(f, i, 0)
		two, _ := realroots.Refine(f, i, 5)
		b, _ := realroots.Bound(f)
		c, _ := realroots.Chain(of(6))
		realroots.SignAt(g, f, i)
		realroots.Compare(f, i, g, j)
		realroots.Count(f, j)
		return slices.Concat(l, []api.Interval{one, two}, asIntervals(chain...), asIntervals(api.ZPoly{b}), asIntervals(c...))
	}
	first, second := results(), results()
	if len(first) < 15 {
		t.Fatal(len(first))
	}
	// Every integer is overwritten, and none of the others may change.
	for m := range first {
		for n, a := range integers(first[m]) {
			for x := range a.Mag[:cap(a.Mag)] {
				a.Mag[:cap(a.Mag)][x] = 0xDEADBEEF
			}
			for y, b := range integers(first[m]) {
				if y > n && !slices.Equal(b.Mag, integers(second[m])[y].Mag) {
					t.Fatal("shared memory", m, n, y)
				}
			}
		}
		if m+1 < len(first) && text(first[m+1:]) != text(second[m+1:]) {
			t.Fatal("shared memory", m)
		}
	}
	if text(append([]api.Interval{i, j}, asIntervals(f, g)...)) != before {
		t.Fatal("an argument was changed")
	}
	if text(results()) != text(second) {
		t.Fatal("results depend on earlier calls")
	}
}

// asIntervals packs the coefficients of polynomials into intervals.
func asIntervals(polys ...api.ZPoly) []api.Interval {
	var l []api.Interval
	for _, f := range polys {
		for _, c := range f {
			l = append(l, api.Interval{Lo: api.Rat{Num: c}})
		}
	}
	return l
}

func integers(i api.Interval) []api.Int {
	return []api.Int{i.Lo.Num, i.Lo.Den, i.Hi.Num, i.Hi.Den}
}

// text returns what intervals consist of, whatever their values.
func text(l []api.Interval) string {
	s := ""
	for _, i := range l {
		for _, a := range integers(i) {
			if a.Neg {
				s += "-"
			}
			for _, d := range a.Mag {
				s += big.NewInt(int64(d)).String() + ","
			}
			s += ";"
		}
	}
	return s
}
