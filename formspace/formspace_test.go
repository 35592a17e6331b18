package formspace_test

import (
	"math"
	"math/rand"
	"reflect"
	"slices"
	"testing"

	"halfplane/api"
	"halfplane/arith"
	"halfplane/bigint"
	"halfplane/dimension"
	eis "halfplane/eisenstein"
	"halfplane/formspace"
	"halfplane/heckeseries"
	"halfplane/lattice"
	"halfplane/levelone"
	"halfplane/matrix"
	"halfplane/newform"
	"halfplane/rational"
	"halfplane/series"
	"halfplane/trace"
)

func TestExamples(t *testing.T) { // P56.2, P56.3
	s := spec(1, 12, 1)
	f := whole(t, s, 3)
	if want := (api.FormSpace{Spec: s, Prec: 3, Basis: []api.Series{of(0, 1, 0, 196560), of(1, 1, -24)}}); !sameSpace(f, want) {
		t.Errorf("Whole: %v", f)
	}
	if g := cusp(t, s, 3); !sameSpace(g, api.FormSpace{Spec: s, Prec: 3, Basis: []api.Series{of(1, 1, -24)}}) {
		t.Errorf("Cusp: %v", g)
	}
	g := eisenstein(t, s, 3)
	if x, _ := rational.Quo(rational.Of(65520), rational.Of(691)); len(g.Basis) != 1 || g.Basis[0].From != 0 || !sameRat(g.Basis[0].Coef[1], x) {
		t.Errorf("Eisenstein: %v", g)
	}
	if g := cusp(t, spec(11, 2, 1), 3); !sameSpace(g, api.FormSpace{Spec: spec(11, 2, 1), Prec: 3, Basis: []api.Series{of(1, 1, -2)}}) {
		t.Errorf("Cusp: %v", g)
	}
	if x, code := formspace.Coordinates(f, of(0, 1, 720, 179280)); code != api.OK || !slices.EqualFunc(x, of(0, 1, 720).Coef, sameRat) {
		t.Errorf("Coordinates: %v, %d", x, code)
	}
}

func TestCheck(t *testing.T) { // P56.1
	s := spec(1, 24, 1)
	good := func() api.FormSpace {
		return api.FormSpace{Spec: s, Prec: 5, Basis: []api.Series{of(0, 1, 0, 7, 8, 9), of(1, 1, -3, 0, 4)}}
	}
	for i, change := range []func(f *api.FormSpace){
		func(f *api.FormSpace) {},
		func(f *api.FormSpace) { f.Basis = nil },
		func(f *api.FormSpace) { f.Prec, f.Basis = 3, nil },
		func(f *api.FormSpace) { f.Prec, f.Basis = 1000, nil },
		func(f *api.FormSpace) { f.Basis = f.Basis[1:] },
		func(f *api.FormSpace) { f.Basis = []api.Series{of(2, 1, 0, 0)} },
		func(f *api.FormSpace) {
			f.Basis = []api.Series{of(0, 1, 0, 0, 8, 9), of(1, 1, 0, 0, 4), of(2, 1, 5, 5)}
		},
		func(f *api.FormSpace) { f.Basis[0].Coef[2], _ = rational.Quo(rational.Of(1), rational.Of(3)) },
	} {
		f := good()
		change(&f)
		if code := formspace.Check(f); code != api.OK {
			t.Errorf("Check of the good space %d: %d", i, code)
		}
	}
	two := api.Int{Mag: []uint32{2}}
	for i, x := range []struct {
		change func(f *api.FormSpace)
		code   api.Errno
	}{
		{func(f *api.FormSpace) { f.Spec = api.Spec{} }, api.ErrRange}, {func(f *api.FormSpace) { f.Spec.Weight = 26; f.Prec = 0 }, api.ErrRange}, {func(f *api.FormSpace) { f.Spec.Weight = 23; f.Basis[0].Coef = nil }, api.ErrParity}, {func(f *api.FormSpace) { f.Spec.Level = 120 }, api.ErrLarge}, {func(f *api.FormSpace) { f.Spec.Disc = 5 }, api.ErrLevel}, {func(f *api.FormSpace) { f.Spec.Disc = 2 }, api.ErrDisc},
		{func(f *api.FormSpace) { f.Prec = 2 }, api.ErrPrec}, {func(f *api.FormSpace) { f.Prec = 0; f.Basis = nil }, api.ErrPrec}, {func(f *api.FormSpace) { f.Prec = -1 }, api.ErrPrec}, {func(f *api.FormSpace) { f.Prec = 1001 }, api.ErrPrec}, {func(f *api.FormSpace) { f.Prec = math.MaxInt }, api.ErrPrec}, {func(f *api.FormSpace) { f.Prec = math.MinInt }, api.ErrPrec},
		{func(f *api.FormSpace) { f.Prec = 4 }, api.ErrForm}, {func(f *api.FormSpace) { f.Prec = 6 }, api.ErrForm}, {func(f *api.FormSpace) { f.Basis[0].Coef = f.Basis[0].Coef[:4] }, api.ErrForm}, {func(f *api.FormSpace) { f.Basis[1].From = 2 }, api.ErrForm}, {func(f *api.FormSpace) { f.Basis[0].Coef[0] = rational.Of(2) }, api.ErrForm}, {func(f *api.FormSpace) { f.Basis[0].Coef[0] = rational.Of(-1) }, api.ErrForm}, {func(f *api.FormSpace) { f.Basis[0].Coef[1] = rational.Of(1) }, api.ErrForm}, {func(f *api.FormSpace) { f.Basis[0].Coef[0] = rational.Of(0) }, api.ErrForm},
		{func(f *api.FormSpace) { f.Basis[0], f.Basis[1] = f.Basis[1], f.Basis[0] }, api.ErrForm}, {func(f *api.FormSpace) { f.Basis[0] = f.Basis[1] }, api.ErrForm}, {func(f *api.FormSpace) { f.Basis[1] = of(3, 1, 0) }, api.ErrForm}, {func(f *api.FormSpace) { f.Basis = append(f.Basis, of(2, 1, 0, 0)) }, api.ErrForm}, {func(f *api.FormSpace) { f.Basis = append(f.Basis, api.Series{From: 5}) }, api.ErrForm}, {func(f *api.FormSpace) { f.Basis = append(f.Basis, api.Series{}) }, api.ErrForm}, {func(f *api.FormSpace) { f.Basis = append(f.Basis, of(4, 1)) }, api.ErrForm}, {func(f *api.FormSpace) { f.Basis = slices.Insert(f.Basis, 0, of(-1, 1, 0, 0, 0, 0, 0)) }, api.ErrForm}, {func(f *api.FormSpace) { f.Basis[0].From = -101 }, api.ErrForm}, {func(f *api.FormSpace) { f.Basis[0].From = math.MaxInt }, api.ErrForm}, {func(f *api.FormSpace) { f.Basis[0].From = math.MinInt }, api.ErrForm},
		// The series are to be normalized.
		{func(f *api.FormSpace) { f.Basis[1] = of(0, 0, 1, -3, 0, 4) }, api.ErrForm}, {func(f *api.FormSpace) { f.Basis[0].Coef[0] = api.Rat{Num: two, Den: two} }, api.ErrForm}, {func(f *api.FormSpace) { f.Basis[0].Coef[1] = api.Rat{} }, api.ErrForm}, {func(f *api.FormSpace) { f.Basis[0].Coef[2].Num.Mag = []uint32{7, 0} }, api.ErrForm},
	} {
		f := good()
		x.change(&f)
		if code := formspace.Check(f); code != x.code {
			t.Errorf("Check of the bad space %d: %d, want %d", i, code, x.code)
		}
		checkAllRefuse(t, f, x.code)
	}
}

// checkAllRefuse checks that all functions return the error of a space of forms first.
func checkAllRefuse(t *testing.T, f api.FormSpace, want api.Errno) {
	t.Helper()
	g := api.FormSpace{Spec: spec(11, 2, 1), Prec: 3}
	bad := api.FormSpace{}
	check := func(what string, result any, code api.Errno) {
		t.Helper()
		if code != want || !reflect.ValueOf(result).IsZero() {
			t.Errorf("%s of %v: %v, %d, want %d", what, f, result, code, want)
		}
	}
	x, code := formspace.Coordinates(f, api.Series{From: 2000})
	check("Coordinates", x, code)
	a, code := formspace.Combine(f, make([]api.Rat, 99))
	check("Combine", a, code)
	h, code := formspace.Sum(f, bad)
	check("Sum", h, code)
	h, code = formspace.Intersect(f, bad)
	check("Intersect", h, code)
	h, code = formspace.Sum(g, f)
	check("Sum", h, code)
	h, code = formspace.Intersect(g, f)
	check("Intersect", h, code)
	l, code := formspace.Integral(f)
	check("Integral", l, code)
	m, code := formspace.Hecke(f, 0)
	check("Hecke", m, code)
}

func TestSpan(t *testing.T) { // P56.1
	s := spec(1, 24, 1)
	third, _ := rational.Quo(rational.Of(1), rational.Of(3))
	for _, x := range []struct {
		list []api.Series
		want []api.Series
		prec int
	}{
		{nil, nil, 3}, {[]api.Series{of(0, 0, 0, 0)}, nil, 3}, {[]api.Series{{From: 7}}, nil, 7}, {[]api.Series{of(0, 2, 4, 6, 8)}, []api.Series{of(0, 1, 2, 3, 4)}, 4}, {[]api.Series{of(1, 2, 4, 6), of(0, 3, 6, 9, 12, 15)}, []api.Series{of(0, 1, 0, -1, -2), of(1, 1, 2, 3)}, 4}, {[]api.Series{of(1, 2, 4, 6), of(0, 3, 6, 9, 12, 15), of(1, 1, 2, 3, 4, 5, 6)}, []api.Series{of(0, 1, 0, -1, -2), of(1, 1, 2, 3)}, 4}, {[]api.Series{of(2, 1, 5), of(0, 1, 1, 1, 1), of(-2, 0, 0, 0, 1, 0, 0)}, []api.Series{of(0, 1, 0, 0, -4), of(1, 1, 0, 0), of(2, 1, 5)}, 4}, {[]api.Series{{From: 3}, of(0, 1, 1, 1, 1)}, []api.Series{of(0, 1, 1, 1)}, 3}, {[]api.Series{{From: -100, Coef: slices.Repeat([]api.Rat{{}}, 1100)}}, nil, 1000},
		{slices.Repeat([]api.Series{of(0, 3, 1, 0)}, 200), []api.Series{{Coef: []api.Rat{rational.Of(1), third, rational.Of(0)}}}, 3},
	} {
		f, code := formspace.Span(s, x.list)
		if code != api.OK || !sameSpace(f, api.FormSpace{Spec: s, Prec: x.prec, Basis: x.want}) {
			t.Errorf("Span(%v): %v, %d", x.list, f, code)
		}
	}
	bad := api.Series{From: -101}
	for _, x := range []struct {
		spec api.Spec
		list []api.Series
		code api.Errno
	}{
		{spec(0, 2, 1), slices.Repeat([]api.Series{bad}, 201), api.ErrRange}, {spec(1, 3, 1), nil, api.ErrParity}, {spec(120, 4, 1), nil, api.ErrLarge}, {s, slices.Repeat([]api.Series{bad}, 201), api.ErrLarge}, {s, []api.Series{of(-1, 1), bad}, api.ErrRange}, {s, []api.Series{of(999, 1, 2)}, api.ErrRange}, {s, []api.Series{of(0, 1), of(-1, 1)}, api.ErrPole}, {s, []api.Series{{From: -1}}, api.ErrPole}, {s, []api.Series{of(-3, 0, 0)}, api.ErrPole}, {s, []api.Series{of(-3, 0, 0, 0)}, api.ErrPrec}, {s, []api.Series{{From: 2}}, api.ErrPrec}, {s, []api.Series{of(0, 1, 2, 3), of(0, 1, 2)}, api.ErrPrec}, {s, []api.Series{of(3, 1), of(0, 1, 2)}, api.ErrPrec},
		{s, []api.Series{of(3, 1)}, api.ErrMember}, {s, []api.Series{of(0, 1, 2, 3, 4), of(0, 1, 2, 3, 5)}, api.ErrMember}, {s, []api.Series{of(0, 1, 2, 3, 4), of(1, 1, 0, 0, 0), of(2, 1, 0, 0, 0), of(0, 0, 0, 1, 1)}, api.ErrMember},
	} {
		f, code := formspace.Span(x.spec, x.list)
		if code != x.code || !reflect.ValueOf(f).IsZero() {
			t.Errorf("Span(%v, %v): %v, %d, want %d", x.spec, x.list, f, code, x.code)
		}
	}
	// What is behind the least precision does not count.
	if f, code := formspace.Span(s, []api.Series{of(0, 1, 2, 3, 4), of(0, 1, 2, 3)}); code != api.OK || len(f.Basis) != 1 {
		t.Errorf("Span: %v, %d", f, code)
	}
}

func TestSpaces(t *testing.T) { // P56.2, P56.6
	for _, s := range specs() {
		b := bound(t, s)
		prec := b + 5
		all, cusps, series := whole(t, s, prec), cusp(t, s, prec), eisenstein(t, s, prec)
		for _, x := range []struct {
			f   api.FormSpace
			dim func(s api.Spec) (int, api.Errno)
		}{{all, dimension.Modular}, {cusps, dimension.Cusp}, {series, dimension.Eisenstein}} {
			if want, _ := x.dim(s); len(x.f.Basis) != want {
				t.Errorf("%v: the dimension is %d, not %d", s, len(x.f.Basis), want)
			}
		}
		if f, code := formspace.Sum(cusps, series); code != api.OK || !sameSpace(f, all) {
			t.Errorf("%v: the sum is %v, %d", s, f, code)
		}
		if f, code := formspace.Intersect(cusps, series); code != api.OK || len(f.Basis) != 0 {
			t.Errorf("%v: the intersection is %v, %d", s, f, code)
		}
		for _, a := range cusps.Basis {
			if a.From < 1 {
				t.Errorf("%v: the cusp form %v", s, a)
			}
		}
		checkGenerators(t, s, cusps, series)
	}
}

// checkGenerators checks that a space of cusp forms and one of Eisenstein series contain the
// series that span them.
func checkGenerators(t *testing.T, s api.Spec, cusps, others api.FormSpace) {
	t.Helper()
	var l []api.Series
	levels, _ := arith.Divisors(s.Level)
	for _, level := range levels {
		f, code := newform.New(spec(level, s.Weight, s.Disc))
		if code != api.OK {
			continue
		}
		for i := range f.Count() {
			field, _ := f.Field(i)
			for j := range len(field.Modulus) - 1 {
				a, _ := f.Expansion(i, j, cusps.Prec)
				shifts, _ := arith.Divisors(s.Level / level)
				for _, d := range shifts {
					b, _ := series.Expand(a, d)
					l = append(l, b)
				}
			}
		}
	}
	for _, a := range l {
		if _, code := formspace.Coordinates(cusps, a); code != api.OK {
			t.Errorf("%v: %v is no cusp form: %d", s, a, code)
		}
	}
	basis, _ := eis.Basis(s, others.Prec)
	for _, a := range basis {
		if _, code := formspace.Coordinates(others, a); code != api.OK {
			t.Errorf("%v: %v is no Eisenstein series: %d", s, a, code)
		}
	}
}

func TestSpaceErrors(t *testing.T) { // P56.2
	for _, x := range []struct {
		spec                    api.Spec
		prec                    int
		cusp, eisenstein, whole api.Errno
	}{
		{spec(0, 2, 1), -1, api.ErrRange, api.ErrRange, api.ErrRange}, {spec(11, 3, 1), 0, api.ErrParity, api.ErrParity, api.ErrParity}, {spec(11, 2, 1), 2, api.ErrPrec, api.ErrPrec, api.ErrPrec}, {spec(11, 2, 1), -1, api.ErrPrec, api.ErrPrec, api.ErrPrec}, {spec(11, 2, 1), math.MinInt, api.ErrPrec, api.ErrPrec, api.ErrPrec}, {spec(11, 2, 1), 1001, api.ErrRange, api.ErrRange, api.ErrRange}, {spec(11, 2, 1), math.MaxInt, api.ErrRange, api.ErrRange, api.ErrRange},
		{spec(11, 2, 1), 3, api.OK, api.OK, api.OK}, {spec(11, 2, 1), 131, api.OK, api.OK, api.OK}, {spec(11, 2, 1), 132, api.ErrLarge, api.OK, api.ErrLarge}, {spec(22, 2, 1), 132, api.ErrLarge, api.OK, api.ErrLarge}, {spec(11, 2, 1), 1000, api.ErrLarge, api.OK, api.ErrLarge}, {spec(10, 2, 1), 1000, api.OK, api.OK, api.OK}, {spec(1, 4, 1), 1000, api.OK, api.OK, api.OK},
		{spec(61, 2, 61), 20, api.OK, api.ErrLarge, api.ErrLarge}, {spec(61, 2, 61), 1001, api.ErrRange, api.ErrRange, api.ErrRange}, {spec(11, 17, -11), 20, api.ErrLarge, api.OK, api.ErrLarge}, {spec(11, 17, -11), 17, api.ErrPrec, api.ErrPrec, api.ErrPrec},
	} {
		for _, y := range []struct {
			what string
			m    maker
			code api.Errno
		}{{"Cusp", formspace.Cusp, x.cusp}, {"Eisenstein", formspace.Eisenstein, x.eisenstein}, {"Whole", formspace.Whole, x.whole}} {
			f, code := y.m(x.spec, x.prec)
			if code != y.code || code != api.OK && !reflect.ValueOf(f).IsZero() {
				t.Errorf("%s(%v, %d): %v, %d, want %d", y.what, x.spec, x.prec, f, code, y.code)
			}
			if code == api.OK && (formspace.Check(f) != api.OK || f.Prec != x.prec) {
				t.Errorf("%s(%v, %d): %v", y.what, x.spec, x.prec, f)
			}
		}
	}
}

func TestMiller(t *testing.T) { // P56.2
	for k := 4; k <= 24; k += 2 {
		l, _ := levelone.Miller(k, 9)
		if f := whole(t, spec(1, k, 1), 9); !slices.EqualFunc(f.Basis, l, same) {
			t.Errorf("weight %d: %v, want %v", k, f, l)
		}
	}
}

func TestCoordinates(t *testing.T) { // P56.3, P56.6
	r := rand.New(rand.NewSource(56))
	for _, s := range specs() {
		b := bound(t, s)
		f := whole(t, s, b+5)
		x := make([]api.Rat, len(f.Basis))
		for i := range x {
			x[i], _ = rational.Quo(rational.Of(r.Intn(19)-9), rational.Of(1+r.Intn(5)))
		}
		a, code := formspace.Combine(f, x)
		if code != api.OK || a.From+len(a.Coef) != f.Prec {
			t.Fatalf("%v: Combine: %v, %d", s, a, code)
		}
		if y, code := formspace.Coordinates(f, a); code != api.OK || !slices.EqualFunc(x, y, sameRat) {
			t.Errorf("%v: Coordinates: %v, %d, want %v", s, y, code, x)
		}
		short, _ := series.Cut(a, b+1)
		if y, code := formspace.Coordinates(f, short); code != api.OK || !slices.EqualFunc(x, y, sameRat) {
			t.Errorf("%v: Coordinates of the beginning: %v, %d, want %v", s, y, code, x)
		}
		if y, code := formspace.Coordinates(f, disguise(a)); code != api.OK || !slices.EqualFunc(x, y, sameRat) {
			t.Errorf("%v: Coordinates of a disguised series: %v, %d, want %v", s, y, code, x)
		}
		last, _ := series.Monomial(rational.Of(1), b+4, b+5)
		pole, _ := series.Monomial(rational.Of(1), -1, b+5)
		for _, c := range []api.Series{last, pole} {
			c, _ = series.Add(a, c)
			if y, code := formspace.Coordinates(f, c); code != api.ErrMember || len(y) != 0 {
				t.Errorf("%v: Coordinates of no form: %v, %d", s, y, code)
			}
		}
	}
	f := whole(t, spec(1, 12, 1), 3)
	longer := of(0, 1, 720, 179280, 5, 6)
	if x, code := formspace.Coordinates(f, longer); code != api.OK || len(x) != 2 {
		t.Errorf("Coordinates of a longer series: %v, %d", x, code)
	}
	for _, x := range []struct {
		a    api.Series
		code api.Errno
	}{
		{api.Series{From: -101}, api.ErrRange}, {api.Series{From: 1001}, api.ErrRange}, {of(-101, 1), api.ErrRange}, {of(0, 1), api.ErrPrec}, {of(-1, 1, 2), api.ErrPrec}, {api.Series{From: 1}, api.ErrPrec}, {api.Series{From: 2}, api.OK}, {of(0, 1, 5), api.OK}, {of(-1, 1, 5, 0), api.ErrMember}, {of(0, 1, 720, 179281), api.ErrMember}, {of(2, 1), api.ErrMember}, {of(-2, 0, 0, 1, 5), api.OK},
	} {
		y, code := formspace.Coordinates(f, x.a)
		if code != x.code || code != api.OK && len(y) != 0 {
			t.Errorf("Coordinates(%v): %v, %d, want %d", x.a, y, code, x.code)
		}
	}
	for _, n := range []int{0, 1, 3} {
		if a, code := formspace.Combine(f, make([]api.Rat, n)); code != api.ErrShape || !reflect.ValueOf(a).IsZero() {
			t.Errorf("Combine of %d numbers: %v, %d", n, a, code)
		}
	}
	if a, code := formspace.Combine(f, make([]api.Rat, 2)); code != api.OK || !same(a, api.Series{From: 3}) {
		t.Errorf("Combine of 0: %v, %d", a, code)
	}
	empty := api.FormSpace{Spec: spec(1, 2, 1), Prec: 9}
	if a, code := formspace.Combine(empty, nil); code != api.OK || !same(a, api.Series{From: 9}) {
		t.Errorf("Combine in the space 0: %v, %d", a, code)
	}
	if x, code := formspace.Coordinates(empty, of(0, 0, 0)); code != api.OK || len(x) != 0 {
		t.Errorf("Coordinates in the space 0: %v, %d", x, code)
	}
	if x, code := formspace.Coordinates(empty, of(0, 1)); code != api.ErrMember || len(x) != 0 {
		t.Errorf("Coordinates in the space 0: %v, %d", x, code)
	}
}

func TestOperations(t *testing.T) { // P56.4, P56.6
	r := rand.New(rand.NewSource(4))
	for n := range 60 {
		s := []api.Spec{spec(1, 24, 1), spec(11, 6, 1), spec(4, 9, -4), spec(22, 2, 1), spec(60, 2, 1), spec(5, 8, 5)}[n%6]
		b := bound(t, s)
		f, g := whole(t, s, b+5), whole(t, s, b+2)
		first, second := part(t, r, f, r.Intn(len(f.Basis)+1)), part(t, r, g, r.Intn(len(f.Basis)+1))
		before := [2]api.FormSpace{copySpace(first), copySpace(second)}
		sum, code := formspace.Sum(first, second)
		both, more := formspace.Intersect(first, second)
		if code != api.OK || more != api.OK || formspace.Check(sum) != api.OK || formspace.Check(both) != api.OK || sum.Prec != b+2 || both.Prec != b+2 {
			t.Fatalf("%v: %v, %d and %v, %d", s, sum, code, both, more)
		}
		if len(sum.Basis)+len(both.Basis) != len(first.Basis)+len(second.Basis) {
			t.Errorf("%v: dimensions %d and %d of %d and %d", s, len(sum.Basis), len(both.Basis), len(first.Basis), len(second.Basis))
		}
		for _, a := range both.Basis {
			for _, h := range []api.FormSpace{first, second} {
				if _, code := formspace.Coordinates(h, a); code != api.OK {
					t.Errorf("%v: the intersection contains %v", s, a)
				}
			}
		}
		for _, a := range slices.Concat(first.Basis, second.Basis) {
			if _, code := formspace.Coordinates(sum, a); code != api.OK {
				t.Errorf("%v: the sum does not contain %v", s, a)
			}
		}
		if other, code := formspace.Sum(second, first); code != api.OK || !sameSpace(other, sum) {
			t.Errorf("%v: the sum depends on the order: %v and %v", s, other, sum)
		}
		if other, code := formspace.Intersect(second, first); code != api.OK || !sameSpace(other, both) {
			t.Errorf("%v: the intersection depends on the order: %v and %v", s, other, both)
		}
		if !sameSpace(before[0], first) || !sameSpace(before[1], second) {
			t.Fatalf("%v: an argument was changed", s)
		}
		checkMemory(t, "Sum and Intersect", slicesOf(first.Basis...), slicesOf(second.Basis...), slicesOf(sum.Basis...), slicesOf(both.Basis...))
	}
}

func TestOperationErrors(t *testing.T) { // P56.4
	s := spec(1, 24, 1)
	space := func(prec int, l ...api.Series) api.FormSpace { return api.FormSpace{Spec: s, Prec: prec, Basis: l} }
	other := whole(t, spec(11, 2, 1), 9)
	for _, x := range []struct {
		a, b api.FormSpace
		code api.Errno
	}{
		{space(5), other, api.ErrDiffer}, {space(5), api.FormSpace{Spec: spec(1, 22, 1), Prec: 5}, api.ErrDiffer}, {api.FormSpace{Spec: spec(3, 4, 1), Prec: 5}, api.FormSpace{Spec: spec(2, 4, 1), Prec: 5}, api.ErrDiffer}, {api.FormSpace{Spec: spec(60, 3, -15), Prec: 55}, api.FormSpace{Spec: spec(60, 3, -4), Prec: 55}, api.ErrDiffer},
		{space(5, of(0, 1, 2, 3, 4, 5)), space(5, of(0, 1, 2, 3, 4, 6)), api.ErrMember}, {space(5, of(0, 1, 2, 3, 4, 5)), space(4, of(0, 1, 2, 3, 4)), api.OK}, {space(5, of(0, 1, 2, 3, 4, 5)), space(4, of(0, 1, 2, 3, 5)), api.ErrMember}, {space(5, of(0, 1, 2, 3, 4, 5)), space(3, of(0, 1, 2, 3)), api.OK}, {space(5, of(0, 1, 0, 0, 4, 5), of(1, 1, 0, 0, 1), of(2, 1, 0, 0)), space(5, of(0, 1, 1, 1, 5, 6)), api.ErrMember}, {space(5, of(0, 1, 0, 0, 4, 5), of(1, 1, 0, 0, 1), of(2, 1, 0, 0)), space(5, of(0, 1, 1, 1, 4, 6)), api.OK}, {space(5), space(4), api.OK}, {space(5), space(5, of(2, 1, 7, 7)), api.OK},
	} {
		for _, swapped := range []bool{false, true} {
			if swapped {
				x.a, x.b = x.b, x.a
			}
			f, code := formspace.Sum(x.a, x.b)
			if code != x.code || code != api.OK && !reflect.ValueOf(f).IsZero() {
				t.Errorf("Sum(%v, %v): %v, %d, want %d", x.a, x.b, f, code, x.code)
			}
			g, code := formspace.Intersect(x.a, x.b)
			if code != x.code || code != api.OK && !reflect.ValueOf(g).IsZero() {
				t.Errorf("Intersect(%v, %v): %v, %d, want %d", x.a, x.b, g, code, x.code)
			}
			if code == api.OK && (f.Prec != min(x.a.Prec, x.b.Prec) || g.Prec != f.Prec || len(f.Basis)+len(g.Basis) != len(x.a.Basis)+len(x.b.Basis)) {
				t.Errorf("of %v and %v: %v and %v", x.a, x.b, f, g)
			}
		}
	}
}

func TestSumLeavesRoom(t *testing.T) { // P56.4, R3
	// There is room behind the basis of the first space.
	s := spec(1, 24, 1)
	room := []api.Series{of(0, 1, 2, 3), of(9, 9), of(9, 9)}
	a := api.FormSpace{Spec: s, Prec: 3, Basis: room[:1]}
	b := api.FormSpace{Spec: s, Prec: 3, Basis: []api.Series{of(1, 1, 0), of(2, 1)}}
	sum, code := formspace.Sum(a, b)
	if _, more := formspace.Intersect(a, b); code != api.OK || more != api.OK || len(sum.Basis) != 3 {
		t.Errorf("Sum: %v, %d, Intersect: %d", sum, code, more)
	}
	if !same(room[1], of(9, 9)) || !same(room[2], of(9, 9)) {
		t.Errorf("Sum wrote behind its argument: %v", room)
	}
}

func TestIntegral(t *testing.T) { // P56.5, P56.6
	r := rand.New(rand.NewSource(5))
	for _, s := range specs() {
		b := bound(t, s)
		for _, f := range []api.FormSpace{whole(t, s, b+5), cusp(t, s, b+5), eisenstein(t, s, b+5)} {
			l, code := formspace.Integral(f)
			if code != api.OK || len(l) != len(f.Basis) {
				t.Fatalf("%v: Integral: %v, %d", s, l, code)
			}
			rows := api.ZMatrix{Rows: len(l), Cols: b + 1}
			for _, a := range l {
				if n, _ := series.Normal(a); !same(n, a) || a.From+len(a.Coef) != f.Prec {
					t.Errorf("%v: Integral: %v", s, a)
				}
				if d, _ := series.Denominator(a); bigint.Cmp(d, bigint.Of(1)) != 0 {
					t.Errorf("%v: not all coefficients are integers: %v", s, a)
				}
				if _, code := formspace.Coordinates(f, a); code != api.OK {
					t.Errorf("%v: %v is not in the space", s, a)
				}
				for n := range b + 1 {
					c, _ := series.At(a, n)
					rows.A = append(rows.A, c.Num)
				}
			}
			// The rows are a basis in normal form, and with them all integral vectors are.
			if m, _ := lattice.Saturate(rows); !slices.EqualFunc(m.A, rows.A, func(x, y api.Int) bool { return bigint.Cmp(x, y) == 0 }) {
				t.Errorf("%v: Integral is no basis: %v", s, rows)
			}
			if len(l) > 0 {
				checkIntegralCoordinates(t, r, l, f)
			}
		}
	}
	s := spec(1, 24, 1)
	half, _ := rational.Quo(rational.Of(1), rational.Of(2))
	f := api.FormSpace{Spec: s, Prec: 4, Basis: []api.Series{{Coef: []api.Rat{rational.Of(1), rational.Of(0), half, rational.Of(1)}}, {From: 1, Coef: []api.Rat{rational.Of(1), half, half}}}}
	l, code := formspace.Integral(f)
	if want := []api.Series{{Coef: []api.Rat{rational.Of(1), rational.Of(1), rational.Of(1), quotient(3, 2)}}, {From: 1, Coef: []api.Rat{rational.Of(2), rational.Of(1), rational.Of(1)}}}; code != api.OK || !slices.EqualFunc(l, want, same) {
		t.Errorf("Integral: %v, %d", l, code)
	}
	if l, code := formspace.Integral(api.FormSpace{Spec: s, Prec: 4}); code != api.OK || len(l) != 0 {
		t.Errorf("Integral of 0: %v, %d", l, code)
	}
}

// checkIntegralCoordinates checks that a combination of integral forms has integral
// coefficients exactly if its coordinates are integers.
func checkIntegralCoordinates(t *testing.T, r *rand.Rand, l []api.Series, f api.FormSpace) {
	t.Helper()
	for range 20 {
		sum, _ := series.Monomial(rational.Of(0), f.Prec, f.Prec)
		integral := true
		for _, a := range l {
			den := 1
			if r.Intn(len(l)) == 0 {
				den = 1 + r.Intn(3)
			}
			num := r.Intn(9) - 4
			integral = integral && num%den == 0
			x, _ := rational.Quo(rational.Of(num), rational.Of(den))
			b, _ := series.Scale(x, a)
			sum, _ = series.Add(sum, b)
		}
		if d, _ := series.Denominator(sum); (bigint.Cmp(d, bigint.Of(1)) == 0) != integral {
			t.Fatalf("%v: %v is integral: %t", f.Spec, sum, integral)
		}
	}
}

func TestHecke(t *testing.T) { // P56.4, P56.6
	for _, x := range []struct {
		spec api.Spec
		n    int
	}{
		{spec(1, 12, 1), 2}, {spec(1, 24, 1), 3}, {spec(11, 2, 1), 2}, {spec(11, 2, 1), 6}, {spec(22, 2, 1), 3}, {spec(23, 2, 1), 2}, {spec(23, 3, -23), 2}, {spec(23, 3, -23), 5}, {spec(4, 9, -4), 3}, {spec(5, 8, 5), 3}, {spec(36, 2, 1), 5}, {spec(11, 6, 1), 2}, {spec(11, 6, 1), 4}, {spec(10, 2, 1), 3},
	} {
		b := bound(t, x.spec)
		f := cusp(t, x.spec, x.n*b+1)
		m, code := formspace.Hecke(f, x.n)
		want, more := heckeseries.MatrixOn(f.Basis, x.spec, x.n)
		if code != more || !reflect.DeepEqual(m, want) || code != api.OK {
			t.Fatalf("Hecke(%v, %d): %v, %d, want %v, %d", x.spec, x.n, m, code, want, more)
		}
		sum, _ := matrix.Trace(m)
		if expected, code := trace.Trace(x.spec, x.n); code != api.OK || rational.Cmp(sum, rational.Whole(expected)) != 0 {
			t.Errorf("the trace of T_%d on %v is %v, not %v", x.n, x.spec, sum, expected)
		}
	}
	f := cusp(t, spec(11, 2, 1), 9)
	for _, n := range []int{0, -1, 1001, 9, 5, 100} {
		m, code := formspace.Hecke(f, n)
		if want, more := heckeseries.MatrixOn(f.Basis, f.Spec, n); code != more || !reflect.DeepEqual(m, want) {
			t.Errorf("Hecke(%d): %v, %d, want %v, %d", n, m, code, want, more)
		}
	}
}

func TestMemory(t *testing.T) { // R3, R10
	s := spec(11, 6, 1)
	f := whole(t, s, 12)
	before := copySpace(f)
	x := slices.Clone(of(0, make([]int, len(f.Basis))...).Coef)
	x[1], x[2] = api.Rat{Num: api.Int{Neg: true, Mag: []uint32{4, 0}}, Den: api.Int{Mag: []uint32{6}}}, api.Rat{Num: api.Int{Mag: []uint32{7}}}
	a, code := formspace.Combine(f, x)
	y, more := formspace.Coordinates(f, a)
	l, third := formspace.Integral(f)
	if code != api.OK || more != api.OK || third != api.OK {
		t.Fatal(code, more, third)
	}
	if want, _ := rational.Quo(rational.Of(-2), rational.Of(3)); !sameRat(y[1], want) || rational.Sign(y[2]) != 0 {
		t.Errorf("Coordinates: %v", y)
	}
	var disguised []api.Series
	for _, b := range f.Basis {
		disguised = append(disguised, disguise(b))
	}
	g, code := formspace.Span(s, disguised)
	if code != api.OK || !sameSpace(g, f) {
		t.Errorf("Span of disguised series: %v, %d", g, code)
	}
	checkMemory(t, "Span, Combine, Coordinates and Integral", slicesOf(f.Basis...), slicesOf(g.Basis...), slicesOf(a), slicesOf(api.Series{Coef: y}), slicesOf(l...), slicesOf(disguised...))
	if !sameSpace(f, before) {
		t.Errorf("an argument was changed: %v", f)
	}
}
