package periods_test

import (
	"math"
	"math/rand"
	"slices"
	"testing"

	"halfplane/api"
	"halfplane/arith"
	"halfplane/bigint"
	"halfplane/boundary"
	"halfplane/correspondence"
	"halfplane/cusps"
	"halfplane/dimension"
	"halfplane/hecke"
	"halfplane/matrix"
	"halfplane/newform"
	"halfplane/paths"
	"halfplane/periods"
	"halfplane/rational"
	"halfplane/sl2"
)

func TestFunctional(t *testing.T) { // P51.1: the functional has the eigenvalues of the newform
	for _, s := range spaces() {
		bound, _ := dimension.Sturm(s)
		primes, _ := arith.Primes(max(bound, 13))
		for _, c := range cases(t, s) {
			l := c.p.Functional()
			if len(l) != c.m.Dim() {
				t.Fatalf("Functional(%v): %v", s, l)
			}
			star, _ := boundary.Star(c.m)
			checkEigenvalue(t, c, l, star, rational.Of(c.sign))
			for _, p := range primes {
				operator, _ := hecke.Operator(c.m, p)
				a, _ := c.f.Trace(c.i, p)
				checkEigenvalue(t, c, l, operator, a)
			}
		}
	}
}

// checkEigenvalue checks that the functional takes x t to a times what it takes x to.
func checkEigenvalue(t *testing.T, c sample, l []api.Rat, operator api.Matrix, a api.Rat) {
	t.Helper()
	for i, x := range l {
		row, _ := matrix.Row(operator, i)
		if !same(pairing(row, l), rational.Mul(a, x)) {
			t.Fatalf("%v, orbit %d, sign %d: the functional %v has not the eigenvalue %s", c.f.Spec(), c.i, c.sign, l, rational.Format(a))
		}
	}
}

func TestPrimitive(t *testing.T) { // P51.1, P51.2
	for _, s := range spaces() {
		for _, c := range cases(t, s) {
			symbols := c.m.Matrix()
			gcd, first := api.Int{}, 0
			for n := range symbols.Rows {
				row, _ := matrix.Row(symbols, n)
				x, ok := rational.Integer(pairing(row, c.p.Functional()))
				if !ok {
					t.Fatalf("%v, orbit %d, sign %d: the value at symbol %d is not an integer", s, c.i, c.sign, n)
				}
				gcd = bigint.Gcd(gcd, x)
				if first == 0 {
					first = bigint.Sign(x)
				}
			}
			if bigint.Cmp(gcd, bigint.Of(1)) != 0 || first != 1 {
				t.Errorf("%v, orbit %d, sign %d: the values have the divisor %s, the first one the sign %d", s, c.i, c.sign, bigint.Format(gcd), first)
			}
		}
	}
}

func TestValue(t *testing.T) { // P51.1
	r := rand.New(rand.NewSource(511))
	for _, s := range spaces() {
		for _, c := range cases(t, s) {
			for range 5 {
				x := randomPath(r, s)
				class, _ := paths.Coordinates(c.m, x)
				if v := value(t, c, x); !same(v, pairing(class, c.p.Functional())) {
					t.Errorf("Value(%v, %v): %s", s, x, rational.Format(v))
				}
			}
			for j := range s.Weight - 1 {
				cusp := randomCusp(r)
				x := api.Path{Poly: make([]api.Rat, s.Weight-1), From: cusp, To: api.Cusp{P: 1}}
				x.Poly[j] = rational.Of(1)
				if v := at(t, c, cusp.P, cusp.Q, j); !same(v, value(t, c, x)) {
					t.Errorf("At(%v, %v, %d): %s", s, cusp, j, rational.Format(v))
				}
			}
		}
	}
}

func TestInvariance(t *testing.T) { // P51.3: the character
	r := rand.New(rand.NewSource(513))
	for _, s := range spaces() {
		for _, c := range cases(t, s) {
			for range 5 {
				x, g := randomPath(r, s), randomMatrix(r, s.Level)
				want := rational.Mul(rational.Of(chi(s, g.D)), value(t, c, x))
				if v := value(t, c, image(t, x, g)); !same(v, want) {
					t.Errorf("%v: the value at the image of %v under %v is %s, want %s", s, x, g, rational.Format(v), rational.Format(want))
				}
			}
		}
	}
}

func TestHecke(t *testing.T) { // P51.3: the Hecke operators
	r := rand.New(rand.NewSource(514))
	for _, s := range spaces() {
		for _, c := range cases(t, s) {
			for _, n := range []int{2, 3, 4, 6, 7, 9, s.Level} {
				x := randomPath(r, s)
				l, e := correspondence.Images(s, n, x)
				if e != api.OK {
					t.Fatal(s, n, e)
				}
				sum := rational.Of(0)
				for _, y := range l {
					sum = rational.Add(sum, value(t, c, y))
				}
				a, _ := c.f.Trace(c.i, n)
				if !same(sum, rational.Mul(a, value(t, c, x))) {
					t.Errorf("%v, orbit %d, sign %d: T_%d at %v", s, c.i, c.sign, n, x)
				}
			}
		}
	}
}

func TestManin(t *testing.T) { // P51.4
	for _, s := range weightTwo() {
		for _, c := range cases(t, s) {
			zero := at(t, c, 0, 1, 0)
			for _, p := range []int{2, 3, 5, 7, 11, 13, 31} {
				if s.Level%p == 0 {
					continue
				}
				sum := rational.Of(0)
				for r := range p {
					cusp, _ := sl2.Reduce(r, p)
					sum = rational.Add(sum, rational.Sub(zero, at(t, c, cusp.P, cusp.Q, 0)))
				}
				a, _ := c.f.Trace(c.i, p)
				if !same(sum, rational.Mul(rational.Sub(rational.Of(1+p), a), zero)) {
					t.Errorf("%v, orbit %d, sign %d, p = %d: %s", s, c.i, c.sign, p, rational.Format(sum))
				}
			}
		}
	}
}

func TestAtkinLehner(t *testing.T) { // P51.5
	r := rand.New(rand.NewSource(515))
	vanishing := 0
	for _, s := range spaces() {
		if s.Disc != 1 {
			continue
		}
		for _, c := range cases(t, s) {
			for q := 1; q <= s.Level; q++ {
				w, e := cusps.AtkinLehner(s.Level, q)
				if e != api.OK {
					continue
				}
				sign, _ := c.f.Sign(c.i, q)
				factor, _ := rational.Pow(rational.Of(q), s.Weight/2-1)
				factor = rational.Mul(rational.Of(sign), factor)
				x := randomPath(r, s)
				if v := value(t, c, image(t, x, w)); !same(v, rational.Mul(factor, value(t, c, x))) {
					t.Errorf("%v, orbit %d, sign %d: the value at the image of %v under W_%d is %s", s, c.i, c.sign, x, q, rational.Format(v))
				}
			}
			if sign, _ := c.f.Sign(c.i, s.Level); sign == 1 && s.Weight == 2 {
				vanishing++
				if v := at(t, c, 0, 1, 0); rational.Sign(v) != 0 {
					t.Errorf("%v, orbit %d: At(0, 0) is %s", s, c.i, rational.Format(v))
				}
			}
		}
	}
	if vanishing < 4 {
		t.Error(vanishing)
	}
}

func TestTwisted(t *testing.T) { // P51.1, P51.6
	count := map[bool]int{}
	for _, s := range weightTwo() {
		for _, c := range cases(t, s) {
			for disc := -40; disc <= 40; disc++ {
				got, e := c.p.Twisted(disc)
				_, f, code := arith.Fundamental(disc)
				switch {
				case code != api.OK || f != 1:
					expectError(t, "Twisted", got, e, api.ErrDisc)
					continue
				case arith.Gcd(disc, s.Level) != 1:
					expectError(t, "Twisted", got, e, api.ErrCoprime)
					continue
				}
				sum := rational.Of(0)
				for r := range max(disc, -disc) {
					if arith.Gcd(r, disc) == 1 {
						cusp, _ := sl2.Reduce(r, max(disc, -disc))
						sum = rational.Add(sum, rational.Mul(rational.Of(arith.Kronecker(disc, r)), at(t, c, cusp.P, cusp.Q, 0)))
					}
				}
				if e != api.OK || !same(got, sum) {
					t.Errorf("Twisted(%v, %d, sign %d, %d): %s, %d; want %s", s, c.i, c.sign, disc, rational.Format(got), e, rational.Format(sum))
				}
				if disc > 0 != (c.sign > 0) && rational.Sign(got) != 0 {
					t.Errorf("Twisted(%v, %d, sign %d, %d) is not 0", s, c.i, c.sign, disc)
				}
				count[rational.Sign(got) == 0]++
			}
			if x, e := c.p.Twisted(1); e != api.OK || !same(x, at(t, c, 0, 1, 0)) {
				t.Errorf("Twisted(%v, 1): %s, %d", s, rational.Format(x), e)
			}
		}
	}
	if count[true] < 100 || count[false] < 100 {
		t.Error(count)
	}
}

func TestGreatTwists(t *testing.T) { // P51.6
	for _, c := range cases(t, spec(11, 2, 1)) {
		for _, disc := range []int{997, -1000 + 5, 993, -999 + 8} {
			x, e := c.p.Twisted(disc)
			if _, f, _ := arith.Fundamental(disc); f != 1 {
				t.Fatal(disc)
			}
			if e != api.OK || disc > 0 != (c.sign > 0) && rational.Sign(x) != 0 {
				t.Errorf("Twisted(%d), sign %d: %s, %d", disc, c.sign, rational.Format(x), e)
			}
		}
	}
}

func TestDelta(t *testing.T) { // P51.1: the periods of Delta (Manin)
	for _, c := range cases(t, spec(1, 12, 1)) {
		// The period polynomial of Delta has the coefficients 36/691, 1, 3 at even
		// exponents and 4, 25, 42 at odd ones, up to signs and a factor; those of the
		// binomial theorem are 1, 45, 210 and 10, 120, 252.
		want := map[int][]int{1: {22680, 0, 9674, 0, 6219, 0}, -1: {0, 48, 0, 25, 0, 20}}[c.sign]
		var l []api.Rat
		for j := range 6 {
			x := rational.Abs(at(t, c, 0, 1, j))
			if y := at(t, c, 0, 1, 10-j); !same(rational.Abs(y), x) {
				t.Errorf("sign %d: the values at %d and %d are %s and %s", c.sign, j, 10-j, rational.Format(x), rational.Format(y))
			}
			l = append(l, x)
		}
		first := slices.IndexFunc(want, func(n int) bool { return n != 0 })
		for j, n := range want {
			if !same(rational.Mul(l[j], rational.Of(want[first])), rational.Mul(l[first], rational.Of(n))) || rational.Sign(l[first]) == 0 {
				t.Errorf("sign %d: the values %v", c.sign, l)
			}
		}
	}
}

func TestExamples(t *testing.T) { // P51.1
	c := cases(t, spec(11, 2, 1))[0]
	zero, half := at(t, c, 0, 1, 0), at(t, c, 1, 2, 0)
	if c.sign != 1 || rational.Sign(zero) == 0 || !same(half, rational.Mul(rational.Of(-4), zero)) {
		t.Errorf("level 11: %s, %s", rational.Format(zero), rational.Format(half))
	}
	x := api.Path{Poly: []api.Rat{rational.Of(1)}, From: api.Cusp{P: 1}, To: api.Cusp{Q: 1}}
	if v := value(t, c, x); !same(v, rational.Neg(zero)) {
		t.Errorf("level 11: %s", rational.Format(v))
	}
	// The curve of level 37 with rank 1, and the other one.
	for _, c := range cases(t, spec(37, 2, 1)) {
		sign, _ := c.f.Sign(c.i, 37)
		if zero := at(t, c, 0, 1, 0); c.sign == 1 && (rational.Sign(zero) == 0) != (sign == 1) {
			t.Errorf("level 37, orbit %d: %s", c.i, rational.Format(zero))
		}
	}
}

func TestNewErrors(t *testing.T) { // P51.1
	f, _ := newform.New(spec(23, 2, 1))
	g, _ := newform.New(spec(11, 2, 1))
	for _, x := range []struct {
		f       *newform.Forms
		i, sign int
		want    api.Errno
	}{
		{nil, 0, 1, api.ErrNil}, {nil, -1, 0, api.ErrNil}, {f, 1, 1, api.ErrRange}, {f, -1, 0, api.ErrRange}, {f, 0, 0, api.ErrRange}, {f, 0, 2, api.ErrRange}, {f, 0, math.MinInt, api.ErrRange}, {f, 0, 1, api.ErrKind}, {f, 0, -1, api.ErrKind},
		{g, 1, 1, api.ErrRange}, {g, 0, -2, api.ErrRange}, {g, math.MaxInt, 1, api.ErrRange}, {new(newform.Forms), 0, 1, api.ErrRange},
	} {
		if p, e := periods.New(x.f, x.i, x.sign); p != nil || e != x.want {
			t.Errorf("New(%d, %d): %v, %d; want error %d", x.i, x.sign, p, e, x.want)
		}
	}
}

func TestPathErrors(t *testing.T) { // P51.1: the order of the errors
	one := rational.Of(1)
	for _, s := range []api.Spec{spec(11, 2, 1), spec(5, 4, 1)} {
		c := cases(t, s)[0]
		good, bad, far := api.Cusp{P: 1, Q: 2}, api.Cusp{P: 2, Q: 4}, api.Cusp{P: math.MaxInt, Q: 1}
		poly := make([]api.Rat, s.Weight-1)
		for _, x := range []struct {
			path api.Path
			want api.Errno
		}{
			{api.Path{From: bad, To: far}, api.ErrShape}, {api.Path{Poly: []api.Rat{one, one}, From: good, To: good}, api.ErrShape}, {api.Path{Poly: make([]api.Rat, 25), From: bad, To: good}, api.ErrShape},
			{api.Path{Poly: poly, From: bad, To: far}, api.ErrForm}, {api.Path{Poly: poly, From: far, To: bad}, api.ErrRange}, {api.Path{Poly: poly, From: good, To: bad}, api.ErrForm}, {api.Path{Poly: poly, From: good, To: far}, api.ErrRange}, {api.Path{Poly: poly}, api.ErrForm},
		} {
			v, e := c.p.Value(x.path)
			expectError(t, "Value", v, e, x.want)
		}
		for _, j := range []int{math.MinInt, -1, s.Weight - 1, math.MaxInt} {
			for _, cusp := range []api.Cusp{good, bad, far} {
				v, e := c.p.At(cusp, j)
				expectError(t, "At", v, e, api.ErrRange)
			}
		}
		v, e := c.p.At(bad, 0)
		expectError(t, "At", v, e, api.ErrForm)
		v, e = c.p.At(far, s.Weight-2)
		expectError(t, "At", v, e, api.ErrRange)
	}
}

func TestTwistErrors(t *testing.T) { // P51.1: the order of the errors
	c, d := cases(t, spec(5, 4, 1))[0], cases(t, spec(15, 2, 1))[0]
	for _, disc := range []int{1, 5, 0, -3, 6, 2000, math.MinInt} {
		v, e := c.p.Twisted(disc)
		expectError(t, "Twisted", v, e, api.ErrKind)
	}
	for _, disc := range []int{math.MinInt, -1003, -15 * 4, -9, -1, 0, 2, 3, 4, 9, 45, 1001, 1005, math.MaxInt} {
		v, e := d.p.Twisted(disc)
		expectError(t, "Twisted", v, e, api.ErrDisc)
	}
	for _, disc := range []int{-3, 5, -15, 12, 60, 993} {
		v, e := d.p.Twisted(disc)
		expectError(t, "Twisted", v, e, api.ErrCoprime)
	}
}

func TestNil(t *testing.T) { // P51.1, R5
	var p *periods.Periods
	for _, q := range []*periods.Periods{p, new(periods.Periods)} {
		if l := q.Functional(); len(l) != 0 {
			t.Errorf("Functional: %v", l)
		}
	}
	v, e := p.Value(api.Path{})
	expectError(t, "Value", v, e, api.ErrNil)
	v, e = p.At(api.Cusp{}, -1)
	expectError(t, "At", v, e, api.ErrNil)
	v, e = p.Twisted(0)
	expectError(t, "Twisted", v, e, api.ErrNil)
	// Periods that New did not return must not panic.
	p = new(periods.Periods)
	if _, e := p.Value(api.Path{From: api.Cusp{P: 1}, To: api.Cusp{Q: 1}}); e == api.OK {
		t.Error("Value of no period map")
	}
	if _, e := p.At(api.Cusp{Q: 1}, 0); e == api.OK {
		t.Error("At of no period map")
	}
	if _, e := p.Twisted(1); e == api.OK {
		t.Error("Twisted of no period map")
	}
}

func TestMemory(t *testing.T) { // R3, R4
	c := cases(t, spec(5, 4, 1))[0]
	x := api.Path{Poly: []api.Rat{rational.Of(3), rational.Of(0), rational.Of(5)}, From: api.Cusp{P: 2, Q: 7}, To: api.Cusp{P: 1, Q: 3}}
	for name, get := range map[string]func() []api.Rat{
		"Functional": c.p.Functional,
		"Value":      func() []api.Rat { v, _ := c.p.Value(x); return []api.Rat{v} },
		"At":         func() []api.Rat { v, _ := c.p.At(api.Cusp{P: 1, Q: 3}, 0); return []api.Rat{v} },
	} {
		got, want := get(), get()
		if len(want) == 0 || rational.Sign(want[len(want)-1]) == 0 {
			t.Fatalf("%s: %v", name, want)
		}
		for i, y := range got {
			for _, mag := range [][]uint32{y.Num.Mag, y.Den.Mag} {
				for k := range mag[:cap(mag)] {
					mag[:cap(mag)][k] = 77
				}
			}
			if i+1 < len(got) && !same(got[i+1], want[i+1]) {
				t.Fatalf("%s: numbers %d and %d share memory", name, i, i+1)
			}
		}
		for i, y := range get() {
			if !same(y, want[i]) {
				t.Errorf("%s: the result is kept", name)
			}
		}
	}
	if x.Poly[0].Num.Mag[0] != 3 || x.Poly[2].Num.Mag[0] != 5 {
		t.Error("a path was changed")
	}
}
