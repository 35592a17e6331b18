package quasimodular_test

import (
	"math"
	"math/big"
	"math/rand"
	"testing"

	"halfplane/api"
	"halfplane/quasimodular"
)

// limits returns valid polynomials at the limits.
func limits() []api.QuasiPoly {
	long := make(api.QuasiPoly, 400)
	for i := range long {
		long[i] = term(int64(i%7-3), 2, i%30, i/30%2, 0)
		long[i].A = min(long[i].A, 28)
	}
	return []api.QuasiPoly{
		nil, {}, {{}}, make(api.QuasiPoly, 400), long, {term(1, 1, 30, 0, 0)}, {term(1, 1, 0, 15, 0)}, {term(1, 1, 0, 0, 10)},
		{term(1, 1, 1, 1, 9)}, {term(1, 1, 10, 4, 4), term(1, 1, 0, 0, 0)}, {term(0, 1, 30, 0, 0)},
	}
}

func TestValid(t *testing.T) { // P38.1, P38.2, P38.3: ErrRange for polynomials that are not valid
	good := api.QuasiPoly{term(1, 1, 1, 0, 0), term(1, 1, 0, 1, 0)}
	for _, p := range invalidPolys() {
		for name, f := range map[string]func() (api.QuasiPoly, api.Errno){
			"Normal":        func() (api.QuasiPoly, api.Errno) { return quasimodular.Normal(p) },
			"Add left":      func() (api.QuasiPoly, api.Errno) { return quasimodular.Add(p, good) },
			"Add right":     func() (api.QuasiPoly, api.Errno) { return quasimodular.Add(good, p) },
			"Scale":         func() (api.QuasiPoly, api.Errno) { return quasimodular.Scale(api.Rat{}, p) },
			"Mul left":      func() (api.QuasiPoly, api.Errno) { return quasimodular.Mul(p, nil) },
			"Mul right":     func() (api.QuasiPoly, api.Errno) { return quasimodular.Mul(nil, p) },
			"Derive":        func() (api.QuasiPoly, api.Errno) { return quasimodular.Derive(p) },
			"Serre":         func() (api.QuasiPoly, api.Errno) { return quasimodular.Serre(p) },
			"Bracket left":  func() (api.QuasiPoly, api.Errno) { return quasimodular.Bracket(p, good, 1) },
			"Bracket right": func() (api.QuasiPoly, api.Errno) { return quasimodular.Bracket(good, p, 1) },
		} {
			got, e := f()
			expectError(t, name, got, e, api.ErrRange)
		}
		k, e := quasimodular.Weight(p)
		expectError(t, "Weight", k, e, api.ErrRange)
		k, e = quasimodular.Depth(p)
		expectError(t, "Depth", k, e, api.ErrRange)
		a, e := quasimodular.Expansion(p, 3)
		expectError(t, "Expansion", a, e, api.ErrRange)
	}
	for _, p := range limits() {
		got, e := quasimodular.Normal(p)
		expectPoly(t, "Normal", got, e, readPoly(p))
		got, e = quasimodular.Add(p, nil)
		expectPoly(t, "Add", got, e, readPoly(p))
		got, e = quasimodular.Mul(p, api.QuasiPoly{term(2, 1, 0, 0, 0)})
		two := readPoly(p)
		two.addAll(big.NewRat(1, 1), readPoly(p))
		expectPoly(t, "Mul", got, e, two)
	}
}

func TestRing(t *testing.T) { // P38.1
	r := rand.New(rand.NewSource(381))
	for range 150 {
		p, q := randomPoly(r, 20, 30), randomPoly(r, 20, 30)
		c := randomRat(r)
		got, e := quasimodular.Normal(p)
		expectPoly(t, "Normal", got, e, readPoly(p))
		sum := readPoly(p)
		sum.addAll(big.NewRat(1, 1), readPoly(q))
		got, e = quasimodular.Add(p, q)
		expectPoly(t, "Add", got, e, sum)
		multiple := polynomial{}
		multiple.addAll(toRat(c), readPoly(p))
		got, e = quasimodular.Scale(c, p)
		expectPoly(t, "Scale", got, e, multiple)
		got, e = quasimodular.Mul(p, q)
		expectPoly(t, "Mul", got, e, multiplied(readPoly(p), readPoly(q)))
		minus, _ := quasimodular.Scale(fraction(-1, 1), p)
		got, e = quasimodular.Add(p, minus)
		expectPoly(t, "p - p", got, e, nil)
	}
}

func TestLongSums(t *testing.T) { // P38.1: a result may have more terms than an argument
	var p, q api.QuasiPoly
	for a := range 31 {
		for b := 0; 2*a+4*b <= 60; b++ {
			for c := 0; 2*a+4*b+6*c <= 60; c++ {
				if len(p) < 400 {
					p = append(p, term(1, 3, a, b, c))
				} else if len(q) < 400 {
					q = append(q, term(2, 5, a, b, c))
				}
			}
		}
	}
	sum := readPoly(p)
	sum.addAll(big.NewRat(1, 1), readPoly(q))
	got, e := quasimodular.Add(q, p)
	expectPoly(t, "Add", got, e, sum)
	if len(got) != 800 {
		t.Errorf("Add has %d terms", len(got))
	}
	got, e = quasimodular.Normal(got)
	expectError(t, "Normal of 800 terms", got, e, api.ErrRange)
}

func TestMulLarge(t *testing.T) { // P38.1
	for _, c := range []struct {
		p, q api.QuasiPoly
		want api.Errno
	}{
		{api.QuasiPoly{term(1, 1, 15, 0, 0)}, api.QuasiPoly{term(1, 1, 0, 6, 1)}, api.OK},
		{api.QuasiPoly{term(1, 1, 15, 0, 0)}, api.QuasiPoly{term(1, 1, 1, 6, 1)}, api.ErrLarge},
		{api.QuasiPoly{term(1, 1, 0, 0, 0), term(1, 1, 15, 0, 0)}, api.QuasiPoly{term(1, 1, 1, 6, 1), term(1, 1, 0, 0, 0)}, api.ErrLarge},
		{api.QuasiPoly{term(1, 1, 30, 0, 0)}, api.QuasiPoly{term(1, 1, 0, 0, 0)}, api.OK},
		{api.QuasiPoly{term(1, 1, 30, 0, 0)}, api.QuasiPoly{term(0, 1, 1, 0, 0), term(3, 1, 0, 0, 0)}, api.OK},
		{api.QuasiPoly{term(1, 1, 30, 0, 0)}, api.QuasiPoly{term(2, 1, 1, 0, 0), term(-2, 1, 1, 0, 0)}, api.OK},
		{api.QuasiPoly{term(1, 1, 30, 0, 0)}, nil, api.OK},
		{nil, api.QuasiPoly{term(1, 1, 30, 0, 0)}, api.OK},
		{api.QuasiPoly{term(1, 1, 0, 0, 0)}, api.QuasiPoly{term(5, 1, 0, 0, 10)}, api.OK},
		{api.QuasiPoly{term(1, 1, 1, 0, 0)}, api.QuasiPoly{term(5, 1, 0, 0, 10)}, api.ErrLarge},
		{api.QuasiPoly{term(1, 1, 0, 0, 10)}, api.QuasiPoly{term(5, 1, 0, 0, 10)}, api.ErrLarge},
	} {
		got, e := quasimodular.Mul(c.p, c.q)
		if c.want != api.OK {
			expectError(t, "Mul", got, e, c.want)
			continue
		}
		expectPoly(t, "Mul", got, e, multiplied(readPoly(c.p), readPoly(c.q)))
	}
}

func TestWeight(t *testing.T) { // P38.1
	for _, c := range []struct {
		p    api.QuasiPoly
		k    int
		want api.Errno
	}{
		{api.QuasiPoly{term(1, 1, 1, 2, 3)}, 28, api.OK},
		{api.QuasiPoly{term(1, 1, 0, 0, 2), term(2, 3, 0, 3, 0), term(1, 1, 6, 0, 0)}, 12, api.OK},
		{api.QuasiPoly{term(5, 1, 0, 0, 0)}, 0, api.OK},
		{api.QuasiPoly{term(1, 1, 0, 0, 10)}, 60, api.OK},
		{nil, 0, api.ErrZero},
		{api.QuasiPoly{term(0, 1, 1, 0, 0)}, 0, api.ErrZero},
		{api.QuasiPoly{term(1, 1, 1, 0, 0), term(-1, 1, 1, 0, 0)}, 0, api.ErrZero},
		{api.QuasiPoly{term(1, 1, 1, 0, 0), term(1, 1, 0, 1, 0)}, 0, api.ErrKind},
		{api.QuasiPoly{term(1, 1, 0, 1, 0), term(1, 1, 0, 0, 0)}, 0, api.ErrKind},
		{api.QuasiPoly{term(1, 1, 1, 0, 0), term(0, 1, 0, 1, 0)}, 2, api.OK},
		{api.QuasiPoly{term(1, 1, 0, 1, 0), term(1, 2, 1, 0, 0), term(-1, 2, 1, 0, 0)}, 4, api.OK},
	} {
		k, e := quasimodular.Weight(c.p)
		if k != c.k || e != c.want {
			t.Errorf("Weight(%v): %d, %d", showPoly(c.p), k, e)
		}
	}
}

func TestDepth(t *testing.T) { // P38.1
	for _, c := range []struct {
		p     api.QuasiPoly
		depth int
	}{
		{nil, 0}, {api.QuasiPoly{term(1, 1, 0, 3, 2)}, 0}, {api.QuasiPoly{term(1, 1, 4, 0, 0), term(1, 1, 5, 1, 1), term(1, 1, 2, 2, 2)}, 5},
		{api.QuasiPoly{term(1, 1, 30, 0, 0)}, 30}, {api.QuasiPoly{term(0, 1, 7, 0, 0), term(1, 1, 1, 0, 0)}, 1},
		{api.QuasiPoly{term(2, 1, 7, 0, 0), term(1, 1, 3, 0, 0), term(-2, 1, 7, 0, 0)}, 3},
	} {
		if d, e := quasimodular.Depth(c.p); d != c.depth || e != api.OK {
			t.Errorf("Depth(%v): %d, %d", showPoly(c.p), d, e)
		}
	}
}

// serre returns Serre's derivative of p, which has the weight k.
func serre(p polynomial, k int) polynomial {
	sum := derived(p)
	sum.addAll(big.NewRat(int64(-k), 12), multiplied(p, polynomial{{1, 0, 0}: big.NewRat(1, 1)}))
	return sum
}

// choose returns m (m - 1) .. (m - s + 1)/s!.
func choose(m, s int) *big.Rat {
	x := big.NewRat(1, 1)
	for i := range s {
		x.Mul(x, big.NewRat(int64(m-i), int64(i+1)))
	}
	return x
}

// factor returns (-1)^r C(n + k - 1, s) C(n + l - 1, r), where r + s = n.
func factor(k, l, n, r int) *big.Rat {
	x := new(big.Rat).Mul(choose(n+k-1, n-r), choose(n+l-1, r))
	if r%2 == 1 {
		x.Neg(x)
	}
	return x
}

// bracket returns the bracket of p and q, which have the weights k and l.
func bracket(p, q polynomial, k, l, n int) polynomial {
	sum := polynomial{}
	for r := range n + 1 {
		x, y := p, q
		for range r {
			x = derived(x)
		}
		for range n - r {
			y = derived(y)
		}
		sum.addAll(factor(k, l, n, r), multiplied(x, y))
	}
	return sum
}

func TestDerive(t *testing.T) { // P38.2
	r := rand.New(rand.NewSource(382))
	for range 100 {
		p := randomPoly(r, 12, 58)
		got, e := quasimodular.Derive(p)
		expectPoly(t, "Derive", got, e, derived(readPoly(p)))
	}
	for _, c := range []struct {
		p    api.QuasiPoly
		want api.Errno
	}{
		{nil, api.OK}, {api.QuasiPoly{term(0, 1, 30, 0, 0)}, api.OK}, {api.QuasiPoly{term(1, 1, 30, 0, 0)}, api.ErrLarge},
		{api.QuasiPoly{term(1, 1, 29, 0, 0), term(1, 1, 0, 0, 0)}, api.OK}, {api.QuasiPoly{term(3, 1, 0, 0, 0)}, api.OK},
		{api.QuasiPoly{term(1, 1, 0, 15, 0), term(1, 1, 0, 0, 0)}, api.ErrLarge},
		{api.QuasiPoly{term(1, 1, 0, 15, 0), term(1, 1, 0, 0, 0), term(-1, 1, 0, 15, 0)}, api.OK},
	} {
		got, e := quasimodular.Derive(c.p)
		if c.want != api.OK {
			expectError(t, "Derive", got, e, c.want)
			continue
		}
		expectPoly(t, "Derive", got, e, derived(readPoly(c.p)))
	}
}

func TestSerre(t *testing.T) { // P38.2
	r := rand.New(rand.NewSource(383))
	for k := 0; k <= 58; k += 2 {
		p := homogeneous(r, k)
		got, e := quasimodular.Serre(p)
		expectPoly(t, "Serre", got, e, serre(readPoly(p), k))
	}
	for _, c := range []struct {
		p    api.QuasiPoly
		want api.Errno
	}{
		{nil, api.OK}, {api.QuasiPoly{term(0, 1, 30, 0, 0), term(0, 1, 0, 0, 0)}, api.OK},
		{api.QuasiPoly{term(1, 1, 30, 0, 0)}, api.ErrLarge}, {api.QuasiPoly{term(1, 1, 30, 0, 0), term(1, 1, 0, 0, 0)}, api.ErrKind},
		{api.QuasiPoly{term(1, 1, 1, 0, 0), term(1, 1, 0, 1, 0)}, api.ErrKind},
	} {
		got, e := quasimodular.Serre(c.p)
		if c.want != api.OK {
			expectError(t, "Serre", got, e, c.want)
			continue
		}
		expectPoly(t, "Serre", got, e, nil)
	}
}

func TestBracket(t *testing.T) { // P38.2
	r := rand.New(rand.NewSource(384))
	for range 40 {
		k, l, n := 2*r.Intn(9), 2*r.Intn(9), r.Intn(7)
		p, q := homogeneous(r, k), homogeneous(r, l)
		got, e := quasimodular.Bracket(p, q, n)
		expectPoly(t, "Bracket", got, e, bracket(readPoly(p), readPoly(q), k, l, n))
	}
	one, weight60 := api.QuasiPoly{term(1, 1, 0, 0, 0)}, api.QuasiPoly{term(1, 1, 0, 0, 10)}
	for n := range 7 {
		got, e := quasimodular.Bracket(one, one, n)
		expectPoly(t, "Bracket of constants", got, e, bracket(readPoly(one), readPoly(one), 0, 0, n))
	}
	mixed := api.QuasiPoly{term(1, 1, 0, 1, 0), term(1, 1, 1, 0, 0)}
	for _, c := range []struct {
		p, q api.QuasiPoly
		n    int
		want api.Errno
	}{
		{one, one, -1, api.ErrRange}, {one, one, 7, api.ErrRange}, {one, one, math.MinInt, api.ErrRange}, {mixed, mixed, 7, api.ErrRange},
		{mixed, one, 1, api.ErrKind}, {one, mixed, 1, api.ErrKind}, {nil, mixed, 1, api.ErrKind}, {mixed, nil, 0, api.ErrKind},
		{mixed, weight60, 6, api.ErrKind}, {weight60, mixed, 6, api.ErrKind},
		{weight60, one, 1, api.ErrLarge}, {one, weight60, 1, api.ErrLarge}, {weight60, one, 0, api.OK}, {weight60, nil, 6, api.OK},
		{nil, weight60, 6, api.OK}, {nil, nil, 6, api.OK}, {weight60, api.QuasiPoly{term(0, 1, 1, 0, 0)}, 6, api.OK},
		{api.QuasiPoly{term(1, 1, 24, 0, 0)}, one, 6, api.OK}, {api.QuasiPoly{term(1, 1, 25, 0, 0)}, one, 6, api.ErrLarge},
		{api.QuasiPoly{term(1, 1, 12, 0, 0)}, api.QuasiPoly{term(1, 1, 0, 6, 0)}, 6, api.OK},
		{api.QuasiPoly{term(1, 1, 13, 0, 0)}, api.QuasiPoly{term(1, 1, 0, 6, 0)}, 6, api.ErrLarge},
	} {
		got, e := quasimodular.Bracket(c.p, c.q, c.n)
		if c.want != api.OK {
			expectError(t, "Bracket", got, e, c.want)
			continue
		}
		k, _ := quasimodular.Weight(c.p)
		l, _ := quasimodular.Weight(c.q)
		expectPoly(t, "Bracket", got, e, bracket(readPoly(c.p), readPoly(c.q), k, l, c.n))
	}
}

func TestPolynomialExamples(t *testing.T) { // P38.2
	e2, e4, e6 := api.QuasiPoly{term(1, 1, 1, 0, 0)}, api.QuasiPoly{term(1, 1, 0, 1, 0)}, api.QuasiPoly{term(1, 1, 0, 0, 1)}
	for name, c := range map[string]struct {
		f    func() (api.QuasiPoly, api.Errno)
		want api.QuasiPoly
	}{
		"Derive of E2":         {func() (api.QuasiPoly, api.Errno) { return quasimodular.Derive(e2) }, api.QuasiPoly{term(-1, 12, 0, 1, 0), term(1, 12, 2, 0, 0)}},
		"Serre of E4":          {func() (api.QuasiPoly, api.Errno) { return quasimodular.Serre(e4) }, api.QuasiPoly{term(-1, 3, 0, 0, 1)}},
		"Serre of E6":          {func() (api.QuasiPoly, api.Errno) { return quasimodular.Serre(e6) }, api.QuasiPoly{term(-1, 2, 0, 2, 0)}},
		"Bracket of E4 and E6": {func() (api.QuasiPoly, api.Errno) { return quasimodular.Bracket(e4, e6, 1) }, api.QuasiPoly{term(2, 1, 0, 0, 2), term(-2, 1, 0, 3, 0)}},
	} {
		if got, e := c.f(); e != api.OK || !samePoly(got, c.want) {
			t.Errorf("%s: %v, %d", name, showPoly(got), e)
		}
	}
}

func TestPolynomialConsequences(t *testing.T) { // P38.5
	r := rand.New(rand.NewSource(385))
	must := func(p api.QuasiPoly, e api.Errno) api.QuasiPoly {
		t.Helper()
		if e != api.OK {
			t.Fatal(e)
		}
		return p
	}
	for range 20 {
		k, l, n := 2*r.Intn(9), 2*r.Intn(9), r.Intn(7)
		p, q := homogeneous(r, k), homogeneous(r, l)
		sign := fraction(int64(1-n%2*2), 1)
		got, want := must(quasimodular.Bracket(q, p, n)), must(quasimodular.Scale(sign, must(quasimodular.Bracket(p, q, n))))
		if !samePoly(got, want) {
			t.Errorf("[g, f]_%d is %v, not %v", n, showPoly(got), showPoly(want))
		}
		if got, want = must(quasimodular.Bracket(p, q, 0)), must(quasimodular.Mul(p, q)); !samePoly(got, want) {
			t.Errorf("[f, g]_0 is %v, not %v", showPoly(got), showPoly(want))
		}
		for _, f := range []*api.QuasiPoly{&p, &q} {
			for i := range *f {
				if t := &(*f)[i]; t.A%2 == 0 {
					t.A, t.B = 0, t.B+t.A/2
				} else {
					t.Coef = api.Rat{}
				}
			}
		}
		for _, f := range []api.QuasiPoly{must(quasimodular.Serre(p)), must(quasimodular.Bracket(p, q, n))} {
			if d, e := quasimodular.Depth(f); d != 0 || e != api.OK {
				t.Errorf("depth %d of %v", d, showPoly(f))
			}
		}
	}
	// Chazy's equation.
	e2 := api.QuasiPoly{term(1, 1, 1, 0, 0)}
	d1 := must(quasimodular.Derive(e2))
	d2 := must(quasimodular.Derive(d1))
	d3 := must(quasimodular.Derive(d2))
	sum := must(quasimodular.Add(d3, must(quasimodular.Scale(fraction(-1, 1), must(quasimodular.Mul(e2, d2))))))
	sum = must(quasimodular.Add(sum, must(quasimodular.Scale(fraction(3, 2), must(quasimodular.Mul(d1, d1))))))
	if len(sum) != 0 {
		t.Errorf("Chazy's equation: %v", showPoly(sum))
	}
}
