package newform_test

import (
	"math"
	"testing"

	"halfplane/api"
	"halfplane/arith"
	"halfplane/atkinlehner"
	"halfplane/charpoly"
	"halfplane/cusps"
	"halfplane/dimension"
	"halfplane/eigen"
	"halfplane/eta"
	"halfplane/hecke"
	"halfplane/levelone"
	"halfplane/matrix"
	"halfplane/newform"
	"halfplane/numfield"
	"halfplane/rational"
	"halfplane/series"
	"halfplane/subspace"
	"halfplane/zpoly"
)

func TestNew(t *testing.T) { // P49.1, P49.2: the separator, the fields and the orbits by their definitions
	bases := map[int]int{}
	for _, s := range spaces() {
		f, v := forms(t, s), partOf(t, s)
		h, sum, factors := v.separated(t)
		bases[h]++
		if f.Spec() != s || f.Count() != len(factors) {
			t.Fatalf("New(%v): %v has %d orbits, want %d", s, f.Spec(), f.Count(), len(factors))
		}
		var want []api.Int
		for i := range primesOf(s) {
			want = append(want, power(h, i))
		}
		if got := f.Separator(); !sameInts(got, want) {
			t.Errorf("Separator of %v: %v, want %v", s, got, want)
		}
		total := 0
		for i, x := range factors {
			if k := field(t, f, i); !sameInts(k.Modulus, x.Poly) {
				t.Errorf("Field(%v, %d): %v, want %v", s, i, k, x.Poly)
			}
			space, e := f.Orbit(i)
			if e != api.OK || subspace.Check(space) != api.OK || !sameSpace(space, v.orbit(t, sum, x.Poly)) {
				t.Errorf("Orbit(%v, %d): %v, %d", s, i, space, e)
			}
			total += degree(t, f, i)
		}
		if count, _ := dimension.New(s); total != count {
			t.Errorf("%v: the degrees sum to %d, and there are %d newforms", s, total, count)
		}
	}
	if bases[1] < 10 || bases[2] < 10 {
		t.Error(bases)
	}
}

func TestDimensions(t *testing.T) { // P49.2
	for level := 1; level <= 120; level++ {
		for weight := 2; weight <= 12; weight++ {
			for disc := -level; disc <= level; disc++ {
				s := spec(level, weight, disc)
				count, e := dimension.New(s)
				if e != api.OK || count > 9 || level*weight > 120 {
					continue
				}
				f, total := forms(t, s), 0
				for i := range f.Count() {
					total += degree(t, f, i)
					if space, e := f.Orbit(i); e != api.OK || space.Basis.Rows != degree(t, f, i) {
						t.Errorf("Orbit(%v, %d): %v, %d", s, i, space, e)
					}
				}
				if total != count {
					t.Errorf("%v: the degrees sum to %d, and there are %d newforms", s, total, count)
				}
			}
		}
	}
}

func TestCoefficient(t *testing.T) { // P49.1: v T_n = a_n v
	for _, s := range spaces() {
		f, v := forms(t, s), partOf(t, s)
		_, sum, _ := v.separated(t)
		var operators []api.Matrix
		for _, n := range []int{1, 2, 3, 4, 5, 6, 7, 8, 9, 10, 11, 12, 16, 18, 25, 30} {
			operators = append(operators, v.hecke(t, n))
		}
		for i := range f.Count() {
			k, w, e := eigen.Vector(sum, field(t, f, i).Modulus)
			if e != api.OK {
				t.Fatal(s, i, e)
			}
			for j, n := range []int{1, 2, 3, 4, 5, 6, 7, 8, 9, 10, 11, 12, 16, 18, 25, 30} {
				checkEigenvector(t, k, w, operators[j], coefficient(t, f, i, n))
			}
		}
	}
}

// checkEigenvector checks that w t = a w.
func checkEigenvector(t *testing.T, k api.Field, w []api.Elem, m api.Matrix, a api.Elem) {
	t.Helper()
	entries, _ := eigen.Of(m)
	image, e := eigen.Mul(k, api.NMatrix{Rows: 1, Cols: len(w), A: w}, entries)
	if e != api.OK {
		t.Fatal(e)
	}
	for i, x := range w {
		if y, _ := numfield.Mul(k, a, x); !sameRats(y, image.A[i]) {
			t.Fatalf("%v: the element %d of the image is %v, and %v for the eigenvalue %v", k, i, image.A[i], y, a)
		}
	}
}

func TestPrimes(t *testing.T) { // P49.1: the great primes, and those that divide the level
	for _, s := range []api.Spec{spec(11, 2, 1), spec(23, 2, 1), spec(1, 12, 1), spec(20, 3, -4), spec(45, 2, 1), spec(5, 4, 5)} {
		f, v := forms(t, s), partOf(t, s)
		_, sum, _ := v.separated(t)
		primes, _ := arith.Primes(api.MaxHecke)
		for i := range f.Count() {
			k, w, _ := eigen.Vector(sum, field(t, f, i).Modulus)
			for _, p := range primes {
				checkEigenvector(t, k, w, v.hecke(t, p), coefficient(t, f, i, p))
			}
		}
	}
}

func TestMultiplicative(t *testing.T) { // P49.3
	for _, s := range spaces() {
		f := forms(t, s)
		for i := range f.Count() {
			k := field(t, f, i)
			if a := coefficient(t, f, i, 1); !sameRats(a, rats(1)) {
				t.Errorf("%v, orbit %d: a_1 is %v", s, i, a)
			}
			for _, x := range [][2]int{{2, 2}, {2, 3}, {3, 3}, {2, 4}, {4, 4}, {6, 4}, {6, 6}, {5, 5}, {12, 18}, {25, 25}, {31, 31}, {8, 125}, {30, 30}} {
				got, _ := numfield.Mul(k, coefficient(t, f, i, x[0]), coefficient(t, f, i, x[1]))
				if want := heckeSum(t, f, i, x[0], x[1]); !sameRats(got, want) {
					t.Errorf("%v, orbit %d: a_%d a_%d is %v, want %v", s, i, x[0], x[1], got, want)
				}
			}
		}
	}
}

// heckeSum returns the sum over the common divisors d of m and n of chi(d) d^(k-1) a_(mn/d^2).
func heckeSum(t *testing.T, f *newform.Forms, i, m, n int) api.Elem {
	t.Helper()
	s, k := f.Spec(), field(t, f, i)
	var sum api.Elem
	for d := 1; d <= m; d++ {
		if m%d != 0 || n%d != 0 || chi(s, d) == 0 {
			continue
		}
		factor := rational.Mul(rational.Of(chi(s, d)), rational.Whole(power(d, s.Weight-1)))
		x, _ := numfield.Mul(k, api.Elem{factor}, coefficient(t, f, i, m*n/d/d))
		sum, _ = numfield.Add(k, sum, x)
	}
	return sum
}

func TestTraces(t *testing.T) { // P49.1, P49.4
	for _, s := range spaces() {
		f, v := forms(t, s), partOf(t, s)
		for _, n := range []int{1, 2, 3, 4, 5, 6, 9, 14} {
			total := rational.Of(0)
			for i := range f.Count() {
				a, k := coefficient(t, f, i, n), field(t, f, i)
				trace, e := f.Trace(i, n)
				want, _ := numfield.Trace(k, a)
				if e != api.OK || !sameRats([]api.Rat{trace}, []api.Rat{want}) {
					t.Errorf("Trace(%v, %d, %d): %v, %d; want %v", s, i, n, trace, e, want)
				}
				total = rational.Add(total, trace)
				space, _ := f.Orbit(i)
				on, e := hecke.On(v.module, n, space)
				if e != api.OK {
					t.Fatalf("%v, orbit %d: T_%d: %d", s, i, n, e)
				}
				got, _ := numfield.CharPoly(k, a)
				if want, _ := charpoly.CharPoly(on); !sameRats(got, want) {
					t.Errorf("%v, orbit %d: the characteristic polynomial of a_%d is %v, that of T_%d %v", s, i, n, got, n, want)
				}
			}
			if want, _ := matrix.Trace(v.hecke(t, n)); rational.Cmp(total, want) != 0 {
				t.Errorf("%v: the traces of a_%d sum to %s, that of T_%d is %s", s, n, rational.Format(total), n, rational.Format(want))
			}
		}
	}
}

func TestDifferent(t *testing.T) { // P49.1, P49.5: x is the combination of the a_p, and has different minimal polynomials
	for _, s := range spaces() {
		f := forms(t, s)
		for i := range f.Count() {
			k := field(t, f, i)
			var sum api.Elem
			for j, p := range primesOf(s) {
				multiple, _ := numfield.Mul(k, api.Elem{rational.Whole(f.Separator()[j])}, coefficient(t, f, i, p))
				sum, _ = numfield.Add(k, sum, multiple)
			}
			if x, _ := numfield.Normal(k, api.Elem(rats(0, 1))); !sameRats(sum, x) {
				t.Errorf("%v, orbit %d: the combination of the a_p is %v, want %v", s, i, sum, x)
			}
			for j := range i {
				if sameInts(k.Modulus, field(t, f, j).Modulus) {
					t.Errorf("%v: the orbits %d and %d have the same polynomial", s, i, j)
				}
			}
		}
	}
}

func TestExpansion(t *testing.T) { // P49.1
	for _, s := range spaces() {
		f := forms(t, s)
		for i := range f.Count() {
			k := field(t, f, i)
			x := api.Elem(rats(1))
			for j := range degree(t, f, i) {
				want := api.Series{Coef: rats(0)}
				for n := 1; n < 20; n++ {
					y, _ := numfield.Mul(k, x, coefficient(t, f, i, n))
					trace, _ := numfield.Trace(k, y)
					want.Coef = append(want.Coef, trace)
				}
				for _, prec := range []int{0, 1, 2, 3, 8, 20} {
					cut, _ := series.Cut(want, prec)
					got, e := f.Expansion(i, j, prec)
					if e != api.OK || !sameSeries(got, cut) {
						t.Errorf("Expansion(%v, %d, %d, %d): %v, %d; want %v", s, i, j, prec, got, e, cut)
					}
				}
				x, _ = numfield.Mul(k, x, api.Elem(rats(0, 1)))
			}
		}
	}
}

func TestEtaQuotients(t *testing.T) { // P49.1: newforms that are eta quotients
	for _, x := range []struct {
		s api.Spec
		q api.Eta
	}{
		{spec(11, 2, 1), api.Eta{Level: 11, Exps: []int{2, 2}}}, {spec(1, 12, 1), api.Eta{Level: 1, Exps: []int{24}}}, {spec(2, 8, 1), api.Eta{Level: 2, Exps: []int{8, 8}}},
		{spec(3, 6, 1), api.Eta{Level: 3, Exps: []int{6, 6}}}, {spec(14, 2, 1), api.Eta{Level: 14, Exps: []int{1, 1, 1, 1}}}, {spec(15, 2, 1), api.Eta{Level: 15, Exps: []int{1, 1, 1, 1}}},
		{spec(27, 2, 1), api.Eta{Level: 9, Exps: []int{0, 2, 2}}}, {spec(32, 2, 1), api.Eta{Level: 8, Exps: []int{0, 0, 2, 2}}}, {spec(7, 3, -7), api.Eta{Level: 7, Exps: []int{3, 3}}},
		{spec(8, 3, -8), api.Eta{Level: 8, Exps: []int{2, 1, 1, 2}}}, {spec(4, 5, -4), api.Eta{Level: 4, Exps: []int{4, 2, 4}}},
	} {
		f := forms(t, x.s)
		if x.s.Level == 27 || x.s.Level == 32 {
			// These are the quotients of level 27 and 32: eta(3 z)^2 eta(9 z)^2, and eta(4 z)^2 eta(8 z)^2.
			x.q.Level = x.s.Level
			for range len(divisors(x.s.Level)) - len(x.q.Exps) {
				x.q.Exps = append(x.q.Exps, 0)
			}
		}
		want, e := eta.Expansion(x.q, 131)
		if e != api.OK {
			t.Fatal(x.q, e)
		}
		if got, e := f.Expansion(0, 0, 131); f.Count() != 1 || e != api.OK || !sameSeries(got, want) {
			t.Errorf("Expansion(%v): %v, %d; want %v", x.s, got, e, want)
		}
	}
}

// divisors returns the divisors of a number.
func divisors(n int) []int {
	l, _ := arith.Divisors(n)
	return l
}

func TestLevelOne(t *testing.T) { // P49.1: tau, and the sum of the conjugate forms of weight 24
	f := forms(t, spec(1, 12, 1))
	for _, n := range []int{1, 2, 12, 113, 125, 128, 243, 500, 625, 999} {
		want, code := levelone.Tau(n)
		if got, e := f.Trace(0, n); code != api.OK || e != api.OK || rational.Cmp(got, rational.Whole(want)) != 0 {
			t.Errorf("Trace(%d): %s, %d; want %v, %d", n, rational.Format(got), e, want, code)
		}
	}
	f = forms(t, spec(1, 24, 1))
	if got, e := f.Trace(0, 2); f.Count() != 1 || e != api.OK || rational.Cmp(got, rational.Of(1080)) != 0 {
		t.Errorf("weight 24: the trace of a_2 is %s, %d", rational.Format(got), e)
	}
}

func TestSign(t *testing.T) { // P49.1
	count := map[int]int{}
	for _, s := range spaces() {
		f := forms(t, s)
		for i := range f.Count() {
			space, _ := f.Orbit(i)
			for q := -1; q <= s.Level+1; q++ {
				sign, e := f.Sign(i, q)
				if s.Disc != 1 {
					expectError(t, "Sign", sign, e, api.ErrDisc)
					continue
				}
				if _, want := cusps.AtkinLehner(s.Level, q); want != api.OK {
					expectError(t, "Sign", sign, e, want)
					continue
				}
				w, _ := atkinlehner.Operator(partOf(t, s).module, q)
				image, _ := matrix.Mul(space.Basis, w)
				multiple, _ := matrix.Scale(space.Basis, rational.Whole(power(q, s.Weight/2-1)))
				multiple, _ = matrix.Scale(multiple, rational.Of(sign))
				if e != api.OK || sign != 1 && sign != -1 || !sameRats(image.A, multiple.A) {
					t.Errorf("Sign(%v, %d, %d): %d, %d", s, i, q, sign, e)
				}
				count[sign]++
			}
		}
	}
	if count[1] < 20 || count[-1] < 20 {
		t.Error(count)
	}
}

func TestSpecErrors(t *testing.T) { // P49.1
	for _, s := range []api.Spec{
		{}, spec(0, 2, 1), spec(121, 2, 1), spec(11, 1, 1), spec(11, 25, 1), spec(11, 2, 0), spec(11, 2, -12), spec(12, 3, -12), spec(11, 2, 5), spec(11, 3, 1), spec(11, 2, -11), spec(120, 4, 1), spec(math.MinInt, math.MaxInt, math.MinInt),
	} {
		want := dimension.Check(s)
		f, e := newform.New(s)
		if want == api.OK || f != nil || e != want {
			t.Errorf("New(%v): %v, %d; want error %d", s, f, e, want)
		}
	}
	// There are too many dimensions, or the degree of an orbit is too great.
	for _, s := range []api.Spec{spec(19, 24, 1), spec(24, 11, -24), spec(68, 3, -4), spec(13, 14, 13), spec(84, 3, -84)} {
		if f, e := newform.New(s); f != nil || e != api.ErrLarge {
			t.Errorf("New(%v): %v, %d", s, f, e)
		}
	}
}

func TestErrors(t *testing.T) { // P49.1: the order of the errors
	f := forms(t, spec(23, 2, 1))
	for _, i := range []int{math.MinInt, -1, 1, 2, math.MaxInt} {
		for _, n := range []int{0, 1, 131, 1001} {
			checkErrors(t, f, i, n, api.ErrRange, api.ErrRange)
		}
	}
	for _, n := range []int{math.MinInt, -1, 0, 1001, math.MaxInt} {
		checkErrors(t, f, 0, n, api.ErrRange, api.OK)
	}
	for _, n := range []int{131, 262, 137, 149, 524, 655, 786, 917, 997} {
		checkErrors(t, f, 0, n, api.ErrLarge, api.OK)
	}
	for _, n := range []int{127, 254, 889, 113 * 8, 127 * 7} {
		coefficient(t, f, 0, n)
	}
	for _, x := range []struct {
		j, prec int
		want    api.Errno
	}{
		{-1, 5, api.ErrRange}, {2, 5, api.ErrRange}, {2, 500, api.ErrRange}, {math.MinInt, 5, api.ErrRange}, {math.MaxInt, 5, api.ErrRange}, {0, -1, api.ErrRange}, {1, 1001, api.ErrRange}, {0, math.MinInt, api.ErrRange}, {0, math.MaxInt, api.ErrRange},
		{0, 132, api.ErrLarge}, {1, 500, api.ErrLarge}, {0, 1000, api.ErrLarge},
	} {
		s, e := f.Expansion(0, x.j, x.prec)
		expectError(t, "Expansion", s, e, x.want)
		s, e = f.Expansion(1, x.j, x.prec)
		expectError(t, "Expansion", s, e, api.ErrRange)
	}
	if s, e := f.Expansion(0, 1, 131); e != api.OK || s.From+len(s.Coef) != 131 {
		t.Errorf("Expansion to the precision 131: %v, %d", s, e)
	}
	g := forms(t, spec(7, 3, -7))
	sign, e := g.Sign(1, 2)
	expectError(t, "Sign", sign, e, api.ErrRange)
	sign, e = g.Sign(0, 2)
	expectError(t, "Sign", sign, e, api.ErrDisc)
	for q, want := range map[int]api.Errno{0: api.ErrRange, -23: api.ErrRange, 2: api.ErrRange, 46: api.ErrRange, math.MinInt: api.ErrRange, math.MaxInt: api.ErrRange} {
		sign, e = f.Sign(0, q)
		expectError(t, "Sign", sign, e, want)
	}
	sign, e = forms(t, spec(27, 2, 1)).Sign(0, 3)
	expectError(t, "Sign", sign, e, api.ErrCoprime)
}

// checkErrors checks the errors of the functions of a number, and whether those without one
// return another error.
func checkErrors(t *testing.T, f *newform.Forms, i, n int, want, other api.Errno) {
	t.Helper()
	a, e := f.Coefficient(i, n)
	expectError(t, "Coefficient", a, e, want)
	x, e := f.Trace(i, n)
	expectError(t, "Trace", x, e, want)
	if other == api.OK {
		return
	}
	k, e := f.Field(i)
	expectError(t, "Field", k, e, other)
	space, e := f.Orbit(i)
	expectError(t, "Orbit", space, e, other)
	s, e := f.Expansion(i, 0, n)
	expectError(t, "Expansion", s, e, other)
	sign, e := f.Sign(i, n)
	expectError(t, "Sign", sign, e, other)
}

func TestNil(t *testing.T) { // P49.1, R5
	var f *newform.Forms
	for _, i := range []int{-1, 0} {
		for _, n := range []int{0, 1, 131} {
			checkErrors(t, f, i, n, api.ErrNil, api.ErrNil)
		}
	}
	if f.Spec() != (api.Spec{}) || f.Count() != 0 || f.Separator() != nil {
		t.Error("nil has newforms")
	}
	// Forms that New did not return must not panic.
	f = new(newform.Forms)
	checkErrors(t, f, 0, 1, api.ErrRange, api.ErrRange)
	if f.Count() != 0 || f.Spec() != (api.Spec{}) || len(f.Separator()) != 0 {
		t.Error("empty Forms have newforms")
	}
}

func TestExamples(t *testing.T) { // P49.1
	f := forms(t, spec(11, 2, 1))
	if f.Count() != 1 || !sameInts(f.Separator(), integers(1)) || !sameInts(field(t, f, 0).Modulus, integers(2, 1)) {
		t.Errorf("level 11: %d orbits, the separator %v", f.Count(), f.Separator())
	}
	if s, e := f.Expansion(0, 0, 12); e != api.OK || !sameSeries(s, api.Series{From: 1, Coef: rats(1, -2, -1, 2, 1, 2, -2, 0, -2, -2, 1)}) {
		t.Errorf("level 11: %v, %d", s, e)
	}
	if sign, e := f.Sign(0, 11); e != api.OK || sign != -1 {
		t.Errorf("level 11: the sign %d, %d", sign, e)
	}
	f = forms(t, spec(1, 12, 1))
	if s, e := f.Expansion(0, 0, 6); e != api.OK || !sameSeries(s, api.Series{From: 1, Coef: rats(1, -24, 252, -1472, 4830)}) || len(f.Separator()) != 0 || !sameInts(field(t, f, 0).Modulus, integers(0, 1)) {
		t.Errorf("level 1, weight 12: %v, %d", s, e)
	}
	f = forms(t, spec(10, 2, 1))
	if f.Count() != 0 || !sameInts(f.Separator(), integers(1, 1)) {
		t.Errorf("level 10: %d orbits, the separator %v", f.Count(), f.Separator())
	}
	f = forms(t, spec(23, 2, 1))
	if f.Count() != 1 || zpoly.Format(field(t, f, 0).Modulus) != "x^2 + x - 1" || !sameRats(coefficient(t, f, 0, 2), rats(-1, -1)) || !sameRats(coefficient(t, f, 0, 3), rats(1, 2)) {
		t.Errorf("level 23: %v", field(t, f, 0))
	}
	// The forms of level 37: that of rank 1 has a_2 = -2, and W_37 is 1 on it.
	f = forms(t, spec(37, 2, 1))
	for i := range f.Count() {
		a, _ := f.Trace(i, 2)
		sign, e := f.Sign(i, 37)
		if f.Count() != 2 || e != api.OK || rational.Cmp(a, rational.Of(-1-sign)) != 0 {
			t.Errorf("level 37, orbit %d: a_2 is %s, the sign %d", i, rational.Format(a), sign)
		}
	}
}

func TestMemory(t *testing.T) { // R3, R4
	f := forms(t, spec(23, 4, 1))
	if f.Count() != 2 {
		t.Fatal(f.Count())
	}
	for name, get := range map[string]func() []api.Rat{
		"Orbit":         func() []api.Rat { s, _ := f.Orbit(1); return s.Basis.A },
		"Coefficient":   func() []api.Rat { a, _ := f.Coefficient(1, 6); return a },
		"Coefficient 1": func() []api.Rat { a, _ := f.Coefficient(1, 1); return a },
		"Coefficient 3": func() []api.Rat { a, _ := f.Coefficient(1, 3); return a },
		"Trace":         func() []api.Rat { x, _ := f.Trace(1, 4); return []api.Rat{x} },
		"Expansion":     func() []api.Rat { s, _ := f.Expansion(1, 1, 9); return s.Coef },
		"Field":         func() []api.Rat { k, _ := f.Field(1); return wholes(k.Modulus) },
		"Separator":     func() []api.Rat { return wholes(f.Separator()) },
	} {
		got, want := get(), get()
		if len(want) == 0 {
			t.Fatalf("%s is empty", name)
		}
		for i := range got {
			spoil(got[i : i+1 : i+1])
			if i+1 < len(got) && !sameRats(got[i+1:i+2], want[i+1:i+2]) {
				t.Fatalf("%s: numbers %d and %d share memory", name, i, i+1)
			}
		}
		if !sameRats(get(), want) {
			t.Errorf("%s: the result is kept", name)
		}
	}
}

// wholes returns integers as fractions that share memory with them.
func wholes(l []api.Int) []api.Rat {
	var out []api.Rat
	for _, x := range l {
		out = append(out, api.Rat{Num: x, Den: rational.Of(1).Den})
	}
	return out
}
