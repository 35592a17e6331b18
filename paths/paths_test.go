package paths_test

import (
	"math"
	"math/big"
	"math/rand"
	"testing"

	"halfplane/api"
	"halfplane/manin"
	"halfplane/paths"
	"halfplane/projline"
	"halfplane/symbols"
)

// expectPath checks the image of a path under a matrix.
func expectPath(t *testing.T, p api.Path, g api.Mat2) {
	t.Helper()
	image, e := paths.Translate(p, g)
	if e != api.OK || len(image.Poly) != len(p.Poly) || image.From != imageOf(g, p.From) || image.To != imageOf(g, p.To) {
		t.Fatalf("Translate(%v, %v): %v, %d", p, g, image, e)
	}
	for _, x := range image.Poly {
		if !isNormal(x) {
			t.Fatalf("Translate(%v, %v): %v is not normalized", p, g, x)
		}
	}
	poly, want := toRats(image.Poly), toRats(p.Poly)
	at := func(a, x, b, y int) *big.Rat {
		return new(big.Rat).SetInt(new(big.Int).Add(new(big.Int).Mul(big.NewInt(int64(a)), big.NewInt(int64(x))), new(big.Int).Mul(big.NewInt(int64(b)), big.NewInt(int64(y)))))
	}
	// A polynomial is known by as many values as it has coefficients.
	points := [][2]int{{1, 0}}
	for x := range len(poly) {
		points = append(points, [2]int{x, 1})
	}
	for _, v := range points {
		if valueAt(poly, at(1, v[0], 0, 0), at(0, 0, 1, v[1])).Cmp(valueAt(want, at(g.D, v[0], -g.B, v[1]), at(-g.C, v[0], g.A, v[1]))) != 0 {
			t.Fatalf("Translate(%v, %v): %v at %v", p, g, image, v)
		}
	}
}

func TestTranslate(t *testing.T) { // P42.1
	r := rand.New(rand.NewSource(421))
	for n := 1; n <= api.MaxWeight-1; n++ {
		for range 8 {
			p := api.Path{Poly: disguise(r, randomPoly(r, n)), From: randomCusp(r, 50), To: randomCusp(r, 1000)}
			for _, g := range []api.Mat2{
				{A: 1, D: 1}, {A: -1, D: -1}, {B: -1, C: 1}, {A: 1, B: 1, D: 1}, {A: n, D: 1}, {A: 1, B: n, D: 2 * n}, {A: 1, D: -1}, randomMatrix(r, 3), randomMatrix(r, 40), randomMatrix(r, 500000),
			} {
				expectPath(t, p, g)
			}
		}
		// Great matrices, with cusps that they map to small enough ones.
		p := api.Path{Poly: disguise(r, randomPoly(r, n)), From: null, To: infinity}
		expectPath(t, p, api.Mat2{A: top, B: top - 1, C: -top, D: top})
		expectPath(t, p, api.Mat2{A: top, B: -top, C: top, D: top})
		expectPath(t, api.Path{Poly: make([]api.Rat, n), From: infinity, To: infinity}, api.Mat2{A: -top, B: 1, C: 1, D: -top})
	}
}

func TestTranslateErrors(t *testing.T) { // P42.1
	one := disguise(rand.New(rand.NewSource(1)), rats(1))
	unit, singular, wide := api.Mat2{A: 1, D: 1}, api.Mat2{A: 2, B: 2, C: 1, D: 1}, api.Mat2{A: top + 1, D: 1}
	shift := api.Mat2{A: 1, B: top, D: 1}
	no, small, great := api.Cusp{}, api.Cusp{P: 0, Q: 1}, api.Cusp{P: 1, Q: 1}
	for i, x := range []struct {
		poly     []api.Rat
		from, to api.Cusp
		g        api.Mat2
		want     api.Errno
	}{
		{nil, no, no, wide, api.ErrShape}, {make([]api.Rat, api.MaxWeight), no, no, wide, api.ErrShape}, {make([]api.Rat, 100), small, small, unit, api.ErrShape},
		{one, no, no, wide, api.ErrRange}, {one, small, small, api.Mat2{A: math.MinInt, D: 1}, api.ErrRange}, {one, no, no, singular, api.ErrSingular}, {one, small, small, api.Mat2{}, api.ErrSingular},
		{one, no, great, shift, api.ErrForm}, {one, great, no, shift, api.ErrLarge}, {one, small, no, shift, api.ErrForm}, {one, small, great, shift, api.ErrLarge}, {one, great, api.Cusp{P: 1, Q: -1}, shift, api.ErrLarge},
		{one, small, api.Cusp{P: 1, Q: -1}, shift, api.ErrRange}, {one, api.Cusp{P: 1, Q: -1}, no, shift, api.ErrRange}, {one, no, api.Cusp{P: 1, Q: -1}, shift, api.ErrForm},
	} {
		p, e := paths.Translate(api.Path{Poly: x.poly, From: x.from, To: x.to}, x.g)
		if e != x.want {
			t.Errorf("path %d: %d, want %d", i, e, x.want)
		}
		expectError(t, "Translate", p, e, e)
	}
	if p, e := paths.Translate(api.Path{Poly: one, From: infinity, To: small}, shift); e != api.OK || p.From != infinity || p.To != (api.Cusp{P: top, Q: 1}) || !sameRats(p.Poly, rats(1)) {
		t.Errorf("%v, %d", p, e)
	}
	for c, want := range noCusps {
		p, e := paths.Translate(api.Path{Poly: one, From: c, To: small}, unit)
		expectError(t, "Translate", p, e, want)
		p, e = paths.Translate(api.Path{Poly: one, From: small, To: c}, unit)
		expectError(t, "Translate", p, e, want)
	}
}

func TestSymbol(t *testing.T) { // P42.1, P42.4
	for _, m := range modules(t) {
		s := m.Spec()
		points, _ := projline.List(s.Level)
		count, _ := manin.Count(s)
		for n := range count {
			p, e := paths.Symbol(m, n)
			g, f := projline.Lift(s.Level, n%len(points))
			if e != api.OK || f != api.OK || p.From != imageOf(g, null) || p.To != imageOf(g, infinity) || len(p.Poly) != s.Weight-1 {
				t.Fatalf("%v: Symbol(%d) is %v, %d", s, n, p, e)
			}
			poly := zeros(s.Weight - 1)
			poly[n/len(points)].SetInt64(1)
			// The polynomial of the path is the one that g takes back to the monomial.
			for x := range s.Weight {
				u, v := big.NewRat(int64(g.A*x+g.B), 1), big.NewRat(int64(g.C*x+g.D), 1)
				if valueAt(toRats(p.Poly), u, v).Cmp(valueAt(poly, big.NewRat(int64(x), 1), big.NewRat(1, 1))) != 0 {
					t.Fatalf("%v: Symbol(%d) is %v", s, n, p)
				}
			}
			class, e := paths.Coordinates(m, p)
			want, _ := m.Reduce(n)
			if e != api.OK || !sameRats(class, toRats(want)) {
				t.Fatalf("%v: the class of %v is %v, %d, that of the symbol %v", s, p, class, e, want)
			}
		}
		for _, n := range []int{math.MinInt, -1, count, count + 1, math.MaxInt} {
			p, e := paths.Symbol(m, n)
			expectError(t, "Symbol", p, e, api.ErrRange)
		}
	}
}

func TestCoordinates(t *testing.T) { // P42.1, P42.4
	r := rand.New(rand.NewSource(422))
	for _, m := range modules(t) {
		o := oracleOf(t, m)
		list := extremes()
		for range 6 {
			list = append(list, randomCusp(r, 60))
		}
		for i, x := range list {
			y := list[(i*5+1)%len(list)]
			poly := randomPoly(r, m.Spec().Weight-1)
			want := o.along(poly, joined(pathTo(x), pathTo(y)))
			got, e := paths.Coordinates(m, api.Path{Poly: disguise(r, poly), From: x, To: y})
			if e != api.OK || !sameRats(got, want) {
				t.Fatalf("%v: the class from %v to %v is %v, %d; want %v", m.Spec(), x, y, toRats(got), e, want)
			}
		}
	}
}

func TestAlong(t *testing.T) { // P42.1, P42.4
	r := rand.New(rand.NewSource(424))
	for _, m := range modules(t) {
		o := oracleOf(t, m)
		for range 6 {
			x, y := randomCusp(r, 40), randomCusp(r, 40)
			poly := randomPoly(r, m.Spec().Weight-1)
			chain := joined(wander(r, x), wander(r, y))
			got, e := paths.Along(m, disguise(r, poly), chain)
			whole, f := paths.Coordinates(m, api.Path{Poly: disguise(r, poly), From: x, To: y})
			if e != api.OK || f != api.OK || !sameRats(got, toRats(whole)) || !sameRats(got, o.along(poly, chain)) {
				t.Fatalf("%v: along %v it is %v, %d; %v, %d", m.Spec(), chain, toRats(got), e, toRats(whole), f)
			}
		}
		poly := disguise(r, randomPoly(r, m.Spec().Weight-1))
		for _, chain := range [][]api.Cusp{nil, {}, {infinity}, {{P: 3, Q: 7}}, {null, infinity, null}} {
			if got, e := paths.Along(m, poly, chain); e != api.OK || !sameRats(got, zeros(m.Dim())) {
				t.Errorf("%v: along %v: %v, %d", m.Spec(), chain, got, e)
			}
		}
		long := []api.Cusp{infinity}
		for n := range 3000 {
			long = append(long, api.Cusp{P: n, Q: 1}, infinity)
		}
		if got, e := paths.Along(m, poly, long); e != api.OK || !sameRats(got, zeros(m.Dim())) {
			t.Errorf("%v: along a long chain: %v, %d", m.Spec(), got, e)
		}
	}
}

func TestClasses(t *testing.T) { // P42.2
	r := rand.New(rand.NewSource(4220))
	for _, m := range modules(t) {
		for range 8 {
			x, y, z := randomCusp(r, 300), randomCusp(r, 3), randomCusp(r, top)
			poly := disguise(r, randomPoly(r, m.Spec().Weight-1))
			between := func(from, to api.Cusp) []api.Rat {
				v, e := paths.Coordinates(m, api.Path{Poly: poly, From: from, To: to})
				if e != api.OK || len(v) != m.Dim() {
					t.Fatalf("%v: from %v to %v: %v, %d", m.Spec(), from, to, v, e)
				}
				return v
			}
			for _, c := range []api.Cusp{x, y, z, infinity, null} {
				if !sameRats(between(c, c), zeros(m.Dim())) {
					t.Errorf("%v: from %v to itself", m.Spec(), c)
				}
			}
			for _, x := range sumOf(between(x, y), between(y, z), between(z, x)) {
				if x.Sign() != 0 {
					t.Fatalf("%v: around %v, %v, %v", m.Spec(), x, y, z)
				}
			}
		}
	}
}

func TestGamma0(t *testing.T) { // P42.3
	r := rand.New(rand.NewSource(423))
	for _, m := range modules(t) {
		for range 12 {
			p := api.Path{Poly: disguise(r, randomPoly(r, m.Spec().Weight-1)), From: randomCusp(r, 30), To: randomCusp(r, 30)}
			g := member(r, m.Spec().Level)
			image, e := paths.Translate(p, g)
			if e != api.OK {
				t.Fatalf("Translate(%v, %v): %d", p, g, e)
			}
			class, _ := paths.Coordinates(m, p)
			want := toRats(class)
			for _, x := range want {
				x.Mul(x, big.NewRat(int64(chi(m.Spec(), g.D)), 1))
			}
			if got, e := paths.Coordinates(m, image); e != api.OK || !sameRats(got, want) {
				t.Fatalf("%v: the image of %v under %v has the class %v, %d", m.Spec(), p, g, toRats(got), e)
			}
		}
	}
}

func TestProducts(t *testing.T) { // P42.5
	r := rand.New(rand.NewSource(425))
	for range 300 {
		p := api.Path{Poly: disguise(r, randomPoly(r, 1+r.Intn(23))), From: randomCusp(r, 30), To: randomCusp(r, 30)}
		g, h := randomMatrix(r, 30), randomMatrix(r, 30)
		first, _ := paths.Translate(p, g)
		second, e := paths.Translate(first, h)
		both, f := paths.Translate(p, times(h, g))
		if e != api.OK || f != api.OK || second.From != both.From || second.To != both.To || !sameRats(both.Poly, toRats(second.Poly)) {
			t.Fatalf("%v under %v and then %v: %v, %v", p, g, h, second, both)
		}
	}
}

func TestErrors(t *testing.T) { // P42.1
	for _, m := range modules(t) {
		w := m.Spec().Weight - 2
		poly := make([]api.Rat, w+1)
		for _, n := range []int{0, w, w + 2, 100} {
			v, e := paths.Coordinates(m, api.Path{Poly: make([]api.Rat, n)})
			expectError(t, "Coordinates", v, e, api.ErrShape)
			v, e = paths.Along(m, make([]api.Rat, n), []api.Cusp{{}})
			expectError(t, "Along", v, e, api.ErrShape)
		}
		for c, want := range noCusps {
			for _, p := range []api.Path{{Poly: poly, From: c, To: null}, {Poly: poly, From: null, To: c}, {Poly: poly, From: c, To: c}} {
				v, e := paths.Coordinates(m, p)
				expectError(t, "Coordinates", v, e, want)
			}
			for other := range noCusps {
				v, e := paths.Coordinates(m, api.Path{Poly: poly, From: c, To: other})
				expectError(t, "Coordinates", v, e, want)
				// Cusps that are no neighbours come after those that are no cusps.
				v, e = paths.Along(m, poly, []api.Cusp{null, null, c, other})
				expectError(t, "Along", v, e, want)
			}
			v, e := paths.Along(m, poly, []api.Cusp{c})
			expectError(t, "Along", v, e, want)
		}
		for _, chain := range [][]api.Cusp{
			{null, null}, {infinity, infinity}, {infinity, null, {P: 2, Q: 1}}, {{P: 1, Q: 2}, {P: 1, Q: 3}, {P: 2, Q: 3}}, {{P: 1, Q: 2}, {P: -1, Q: 2}}, {{P: top, Q: 1}, {P: 1, Q: top}},
		} {
			v, e := paths.Along(m, poly, chain)
			expectError(t, "Along", v, e, api.ErrMember)
		}
	}
}

func TestNil(t *testing.T) { // P42.1, R5
	p, e := paths.Symbol(nil, -1)
	expectError(t, "Symbol", p, e, api.ErrNil)
	v, e := paths.Coordinates(nil, api.Path{})
	expectError(t, "Coordinates", v, e, api.ErrNil)
	v, e = paths.Along(nil, nil, []api.Cusp{{}})
	expectError(t, "Along", v, e, api.ErrNil)
}

func TestExamples(t *testing.T) { // P42.1
	m, _ := symbols.New(spec(1, 4, 1))
	r := rand.New(rand.NewSource(1))
	one := api.Cusp{P: 1, Q: 1}
	for _, x := range []struct {
		poly     []*big.Rat
		from, to api.Cusp
		want     int64
	}{{rats(0, 0, 1), null, infinity, 1}, {rats(1, 0, 0), null, infinity, -1}, {rats(0, 0, 1), null, one, 1}, {rats(0, 0, 1), one, infinity, 0}} {
		if v, e := paths.Coordinates(m, api.Path{Poly: disguise(r, x.poly), From: x.from, To: x.to}); e != api.OK || !sameRats(v, rats(x.want)) {
			t.Errorf("%v: %v, %d", x, v, e)
		}
	}
	p, e := paths.Translate(api.Path{Poly: disguise(r, rats(0, 0, 1)), From: null, To: infinity}, api.Mat2{A: 1, B: 1, D: 1})
	if e != api.OK || !sameRats(p.Poly, rats(1, -2, 1)) || p.From != one || p.To != infinity {
		t.Errorf("%v, %d", p, e)
	}
}

func TestMemory(t *testing.T) { // R3, R4: results are new memory, and arguments stay as they are
	r := rand.New(rand.NewSource(3))
	for _, s := range []api.Spec{spec(11, 2, 1), spec(5, 6, 5), spec(1, 24, 1)} {
		m, _ := symbols.New(s)
		values := randomPoly(r, s.Weight-1)
		p := api.Path{Poly: disguise(r, values), From: api.Cusp{P: 3, Q: 7}, To: api.Cusp{P: -5, Q: 2}}
		plain := api.Path{Poly: make([]api.Rat, s.Weight-1), From: null, To: infinity}
		for i := range plain.Poly {
			plain.Poly[i] = api.Rat{Num: fromInt(big.NewInt(7), 0), Den: fromInt(big.NewInt(1), 0)}
		}
		chain := pathTo(api.Cusp{P: 31, Q: 12})
		for name, f := range map[string]func() []api.Rat{
			"Translate":       func() []api.Rat { q, _ := paths.Translate(p, api.Mat2{A: 2, B: 1, D: 3}); return q.Poly },
			"Translate by 1":  func() []api.Rat { q, _ := paths.Translate(plain, api.Mat2{A: 1, D: 1}); return q.Poly },
			"Symbol":          func() []api.Rat { q, _ := paths.Symbol(m, 0); return q.Poly },
			"Coordinates":     func() []api.Rat { v, _ := paths.Coordinates(m, p); return v },
			"Along":           func() []api.Rat { v, _ := paths.Along(m, plain.Poly, chain); return v },
			"Along no chain":  func() []api.Rat { v, _ := paths.Along(m, plain.Poly, nil); return v },
			"Along one thing": func() []api.Rat { v, _ := paths.Along(m, p.Poly, chain[:2]); return v },
		} {
			got, want := f(), toRats(f())
			for i := range got {
				for _, mag := range [][]uint32{got[i].Num.Mag, got[i].Den.Mag} {
					mag = mag[:cap(mag)]
					for k := range mag {
						mag[k] = 77
					}
				}
				got[i] = api.Rat{}
				if i+1 < len(got) && !sameRats(got[i+1:i+2], want[i+1:i+2]) {
					t.Fatalf("%v, %s: fractions %d and %d share memory", s, name, i, i+1)
				}
			}
			if !sameRats(f(), want) {
				t.Errorf("%v, %s: the result is kept", s, name)
			}
		}
		for i, x := range toRats(p.Poly) {
			if x.Cmp(values[i]) != 0 || toRat(plain.Poly[i]).Cmp(big.NewRat(7, 1)) != 0 {
				t.Fatalf("%v: an argument was changed", s)
			}
		}
	}
}
