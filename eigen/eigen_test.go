package eigen_test

import (
	"math"
	"math/rand"
	"slices"
	"testing"

	"halfplane/api"
	"halfplane/bigint"
	"halfplane/charpoly"
	"halfplane/eigen"
	"halfplane/factor"
	"halfplane/matrix"
	"halfplane/numfield"
	"halfplane/qpoly"
	"halfplane/rational"
	"halfplane/subspace"
	"halfplane/zpoly"
)

func TestOf(t *testing.T) { // P16.1
	m, e := eigen.Of(of(2, "1/2 0 -3 0 7 1"))
	check(t, "Of", m, e, elements(2, "1/2,,-3,,7,1"))
	m, e = eigen.Of(api.Matrix{Rows: 1, Cols: 4, A: []api.Rat{{Num: bigint.Of(4), Den: bigint.Of(-6)}, {Num: bigint.Of(5)}, {Num: minusZero, Den: bigint.Of(3)}, {}}})
	check(t, "Of", m, e, elements(1, "-2/3,,,"))
	for _, size := range [][2]int{{0, 0}, {0, 5}, {3, 0}, {1024, 0}} {
		m, e = eigen.Of(api.Matrix{Rows: size[0], Cols: size[1]})
		check(t, "Of", m, e, api.NMatrix{Rows: size[0], Cols: size[1]})
	}
}

func TestMul(t *testing.T) { // P16.1
	r := rand.New(rand.NewSource(1))
	for _, s := range append(fields, rings...) {
		k := modulus(s)
		for i := range 20 {
			a, b := random(r, k, i%4, i%5), random(r, k, i%5, i%3)
			m, e := eigen.Mul(k, a, b)
			want := api.NMatrix{Rows: a.Rows, Cols: b.Cols}
			for i := range a.Rows {
				for j := range b.Cols {
					var sum api.Elem
					for l := range a.Cols {
						x, _ := numfield.Mul(k, a.A[i*a.Cols+l], b.A[l*b.Cols+j])
						sum, _ = numfield.Add(k, sum, x)
					}
					want.A = append(want.A, sum)
				}
			}
			check(t, "Mul", m, e, want)
		}
	}
	m, e := eigen.Mul(modulus("x^2 - 2"), elements(1, "0 1,1"), elements(2, "0 1,2,1,-1/2"))
	check(t, "Mul", m, e, elements(1, "3,-1/2 2"))
}

func TestEchelon(t *testing.T) { // P16.2
	r := rand.New(rand.NewSource(2))
	for _, s := range fields {
		k := modulus(s)
		d := zpoly.Degree(k.Modulus)
		for i := range 25 {
			if d > 4 && i > 8 {
				break
			}
			a := random(r, k, i%5, i%6)
			if i%3 == 0 { // one of a smaller rank
				b, c := random(r, k, 4, i%4), random(r, k, i%4, 5)
				a, _ = eigen.Mul(k, b, c)
			}
			m, pivots, e := eigen.Echelon(k, a)
			want, columns, _ := matrix.Echelon(expanded(k, a))
			checkExpanded(t, "Echelon", k, m, e, want)
			if len(pivots)*d != len(columns) {
				t.Fatal(s, a, pivots, columns)
			}
			for i, col := range pivots {
				if col*d != columns[i*d] {
					t.Fatal(s, a, pivots, columns)
				}
			}
			n, e := eigen.Kernel(k, a)
			want, _ = matrix.Kernel(expanded(k, a))
			checkExpanded(t, "Kernel", k, n, e, want)
		}
	}
	k := modulus("x^2 - 2")
	m, pivots, e := eigen.Echelon(k, elements(2, "0,0 1,2,0,1,0 1"))
	check(t, "Echelon", m, e, elements(1, ",1,0 1"))
	if !slices.Equal(pivots, []int{1}) {
		t.Error(pivots)
	}
	m, e = eigen.Kernel(k, elements(2, "0 1,2"))
	check(t, "Kernel", m, e, elements(1, "1,0 -1/2"))
	m, e = eigen.Kernel(k, api.NMatrix{Rows: 2})
	check(t, "Kernel", m, e, elements(2, "1,,,1"))
	m, e = eigen.Kernel(k, api.NMatrix{Cols: 2})
	check(t, "Kernel", m, e, api.NMatrix{})
	// An element that is 0 only modulo the polynomial.
	m, pivots, e = eigen.Echelon(k, elements(1, "-2 0 1,3"))
	check(t, "Echelon", m, e, elements(1, ",1"))
	if !slices.Equal(pivots, []int{1}) {
		t.Error(pivots)
	}
}

// Over a ring that is not a field the result is right, or there is an element other than
// 0 without an inverse.
func TestReducible(t *testing.T) { // P16.2
	r := rand.New(rand.NewSource(3))
	found := map[api.Errno]int{}
	for _, s := range rings {
		k := modulus(s)
		for i := range 60 {
			a := random(r, k, i%4, i%5)
			m, pivots, e := eigen.Echelon(k, a)
			found[e]++
			if e == api.OK {
				want, _, _ := matrix.Echelon(expanded(k, a))
				checkExpanded(t, "Echelon", k, m, e, want)
			} else if e != api.ErrSingular || m.Rows+m.Cols+len(m.A)+len(pivots) != 0 {
				t.Fatal(s, a, m, pivots, e)
			}
			n, e := eigen.Kernel(k, a)
			if e == api.OK {
				want, _ := matrix.Kernel(expanded(k, a))
				checkExpanded(t, "Kernel", k, n, e, want)
			} else if e != api.ErrSingular || n.Rows+n.Cols+len(n.A) != 0 {
				t.Fatal(s, a, n, e)
			}
		}
	}
	if found[api.OK] == 0 || found[api.ErrSingular] == 0 {
		t.Error(found)
	}
	k := modulus("x^2 - 1")
	if m, pivots, e := eigen.Echelon(k, elements(1, "1 1")); e != api.ErrSingular || m.Rows != 0 || len(pivots) != 0 {
		t.Error(m, pivots, e)
	}
	m, e := eigen.Kernel(k, elements(1, "2"))
	check(t, "Kernel", m, e, api.NMatrix{Cols: 1})
}

// checkVector checks what Vector returns for a simple factor of the characteristic
// polynomial, or one with an eigenspace of dimension 1.
func checkVector(t *testing.T, a api.Matrix, f api.ZPoly) {
	t.Helper()
	k, v, e := eigen.Vector(a, f)
	if e != api.OK || zpoly.Format(k.Modulus) != zpoly.Format(f) || len(v) != a.Rows {
		t.Fatal(a, zpoly.Format(f), k, v, e)
	}
	first := slices.IndexFunc(v, func(x api.Elem) bool { return len(x) > 0 })
	check(t, "Vector", api.NMatrix{A: v}, e, normal(k, api.NMatrix{A: v}))
	if first < 0 || textOf(v[first]) != textOf(parse("1")) {
		t.Fatal(a, v)
	}
	// v * a = x * v
	m, _ := eigen.Of(a)
	left, _ := eigen.Mul(k, api.NMatrix{Rows: 1, Cols: len(v), A: v}, m)
	for i, x := range v {
		right, _ := numfield.Mul(k, parse("0 1"), x)
		if textOf(left.A[i]) != textOf(right) {
			t.Fatal(a, v)
		}
	}
	if !eigen.Check(a, k, v) {
		t.Fatal("refused", a, v)
	}
	checkCoordinates(t, a, f, v)
}

// checkCoordinates checks the subspace of the coordinates of v: it is invariant, and the
// characteristic polynomial on it is f.
func checkCoordinates(t *testing.T, a api.Matrix, f api.ZPoly, v []api.Elem) {
	t.Helper()
	d := zpoly.Degree(f)
	m, _ := matrix.New(d, len(v))
	for i, x := range v {
		for j, y := range x {
			m.A[j*len(v)+i] = y
		}
	}
	s, _ := subspace.Span(m)
	on, e := subspace.Restrict(s, a)
	if e != api.OK || on.Rows != d {
		t.Fatal(a, v, on, e)
	}
	g, _ := charpoly.CharPoly(on)
	if text(g...) != text(qpoly.Of(f)...) {
		t.Fatal(a, v, g)
	}
}

func TestVector(t *testing.T) { // P16.3, P16.4
	k, v, e := eigen.Vector(of(2, "0 1 2 0"), modulus("x^2 - 2").Modulus)
	check(t, "Vector", api.NMatrix{Rows: 1, Cols: 2, A: v}, e, elements(1, "1,0 1/2"))
	if zpoly.Format(k.Modulus) != "x^2 - 2" {
		t.Error(k)
	}
	r := rand.New(rand.NewSource(4))
	for i := range 60 {
		n := 1 + i%6
		a, _ := matrix.New(n, n)
		for j := range a.A {
			a.A[j] = rational.Of(r.Intn(11) - 5)
		}
		f, _ := charpoly.CharPoly(a)
		g, _ := qpoly.Clear(f)
		_, l, _ := factor.Factor(g)
		for _, x := range l {
			if x.Exp == 1 {
				checkVector(t, a, x.Poly)
			}
		}
	}
	// Fractions, and factors with exponents.
	for _, s := range fields {
		f := modulus(s).Modulus
		block, _ := charpoly.Companion(qpoly.Of(f))
		double, _ := charpoly.Companion(power(f, 2))
		other := of(2, "1/2 1 1/3 -1")
		checkVector(t, conjugated(r, blocks(other, block)), f)
		if zpoly.Degree(f) < 7 {
			checkVector(t, conjugated(r, blocks(double, other)), f)
		}
		for _, a := range []api.Matrix{blocks(block, block), blocks(double, block)} {
			if k, v, e := eigen.Vector(conjugated(r, a), f); e != api.ErrDiffer || len(k.Modulus)+len(v) != 0 {
				t.Error(s, k, v, e)
			}
		}
	}
	// The first elements are 0.
	_, v, e = eigen.Vector(of(3, "0 0 0 0 5 0 0 0 7"), modulus("x - 7").Modulus)
	check(t, "Vector", api.NMatrix{Rows: 1, Cols: 3, A: v}, e, elements(1, ",,1"))
}

func TestVectorErrors(t *testing.T) { // P16.3
	two := of(2, "0 1 2 0")
	huge, _ := bigint.Pow(bigint.Of(2), 4097)
	one, _ := matrix.Identity(2)
	many, _ := matrix.Identity(70)
	for _, c := range []struct {
		a    api.Matrix
		f    api.ZPoly
		want api.Errno
	}{
		{of(1, "1 2"), nil, api.ErrShape}, {api.Matrix{Rows: 1, Cols: 1}, modulus("x").Modulus, api.ErrShape}, {api.Matrix{Rows: 1025, Cols: 1025}, nil, api.ErrShape},
		{two, nil, api.ErrForm}, {two, modulus("2*x^2 - 4").Modulus, api.ErrForm}, {two, modulus("x^13 - 2").Modulus, api.ErrForm},
		{two, api.ZPoly{huge, {}, bigint.Of(1)}, api.ErrLarge}, {two, modulus("x^2 - 4").Modulus, api.ErrReducible}, {two, modulus("x^2").Modulus, api.ErrReducible},
		{two, modulus("x^2 - 3").Modulus, api.ErrMember}, {two, modulus("x - 1").Modulus, api.ErrMember}, {api.Matrix{}, modulus("x").Modulus, api.ErrMember}, {api.Matrix{}, nil, api.ErrForm},
		{one, modulus("x - 1").Modulus, api.ErrDiffer}, {one, modulus("x - 2").Modulus, api.ErrMember}, {of(2, "0 0 0 0"), modulus("x").Modulus, api.ErrDiffer},
		{many, modulus("x - 1").Modulus, api.ErrDiffer}, {many, modulus("x^2 + 1").Modulus, api.ErrMember},
	} {
		if k, v, e := eigen.Vector(c.a, c.f); e != c.want || len(k.Modulus)+len(v) != 0 {
			t.Error(c.a, zpoly.Format(c.f), k, v, e, c.want)
		}
	}
	// More rows than a characteristic polynomial may have.
	many.A[69*70+69] = rational.Of(5)
	many.A[69*70] = rational.Of(8)
	_, v, e := eigen.Vector(many, modulus("x - 5").Modulus)
	if e != api.OK || text(v[0]...) != text(parse("1")...) || text(v[69]...) != text(parse("1/2")...) || !eigen.Check(many, modulus("x - 5"), v) {
		t.Error(v, e)
	}
}

func TestCheck(t *testing.T) { // P16.3, P16.4
	a := of(2, "0 1 2 0")
	k := modulus("x^2 - 2")
	for _, c := range []struct {
		a    api.Matrix
		k    api.Field
		v    string
		want bool
	}{
		{a, k, "1,0 1/2", true}, {a, k, "0 1,1", true}, {a, k, "0 -1,-1", true}, {a, k, "-1 0 1,0 1/2", true}, {a, k, "1/3 1,1 1/6", true},
		{a, k, "1,0 -1/2", false}, {a, k, "1,1", false}, {a, k, "0,0", false}, {a, k, "-2 0 1,", false}, {a, k, "1", false}, {a, k, "1,0 1/2,0", false}, {a, k, "1,0 1/2 1", false},
		{a, modulus("x^2 - 3"), "1,0 1/2", false}, {a, modulus("x^2 - 4"), "1,0 1/2", false}, {a, api.Field{}, "1,0 1/2", false}, {a, modulus("2*x^2 - 4"), "1,0 1/2", false},
		{of(1, "0 1"), k, "1", false}, {api.Matrix{Rows: 2, Cols: 2, A: parse("0 1 2")}, k, "1,0 1/2", false}, {of(1, "0"), modulus("x"), "5", true}, {of(1, "0"), modulus("x"), "0", false}, {of(1, "0"), modulus("x"), "0 3", false},
		{of(2, "3 0 0 1/2"), modulus("x - 3"), "7/2,0", true}, {of(2, "3 0 0 1/2"), modulus("x - 3"), "0,1", false}, {of(2, "3 0 0 4"), modulus("x^2 - 7*x + 12"), "-4 1,-3 1", false},
		{of(1, "1/2"), modulus("x - 1"), "1", false},
	} {
		if got := eigen.Check(c.a, c.k, elements(1, c.v).A); got != c.want {
			t.Error(c.a, c.k, c.v, got)
		}
	}
	if eigen.Check(api.Matrix{}, modulus("x"), nil) || eigen.Check(a, k, nil) {
		t.Error("accepted")
	}
	huge, _ := bigint.Pow(bigint.Of(2), 4097)
	large := api.Field{Modulus: api.ZPoly{bigint.Neg(huge), bigint.Of(1)}}
	if eigen.Check(api.Matrix{Rows: 1, Cols: 1, A: []api.Rat{rational.Whole(huge)}}, large, elements(1, "1").A) {
		t.Error("accepted")
	}
	// What is accepted is a multiple of what Vector returns, and every other change of an
	// element is noticed.
	r := rand.New(rand.NewSource(5))
	for _, s := range fields {
		k := modulus(s)
		block, _ := charpoly.Companion(qpoly.Of(k.Modulus))
		a := conjugated(r, blocks(block, of(1, "1/7")))
		_, v, e := eigen.Vector(a, k.Modulus)
		if e != api.OK {
			t.Fatal(s, e)
		}
		multiple := clone(v)
		changed := clone(v)
		for i := range v {
			multiple[i], _ = numfield.Mul(k, v[i], parse("2 1/3"))
		}
		i := r.Intn(len(v))
		changed[i], _ = numfield.Add(k, v[i], parse("0 1"))
		if i == slices.IndexFunc(v, func(x api.Elem) bool { return len(x) > 0 }) && len(v) == 2 {
			changed[i], _ = numfield.Add(k, v[i], parse("1"))
		}
		isMultiple := len(k.Modulus) == 2 && !slices.ContainsFunc(slices.Delete(clone(v), i, i+1), func(x api.Elem) bool { return len(x) > 0 })
		if !eigen.Check(a, k, multiple) || eigen.Check(a, k, changed) && !isMultiple {
			t.Error(s, a, v, i)
		}
	}
}

func TestErrors(t *testing.T) { // the first error of every function
	k := modulus("x^2 - 2")
	one := elements(1, "1")
	bad := []api.Field{{}, modulus("5"), modulus("2*x^2 - 1"), modulus("x^13 - 2")}
	for _, s := range [][3]int{{1, 1, 0}, {1, 1, 2}, {-1, -1, 1}, {-1, 0, 0}, {0, -1, 0}, {0, 1025, 0}, {1025, 0, 0}, {1025, 1, 1025}, {math.MinInt, 2, 0}, {1 << 32, 1 << 32, 0}} {
		m := api.NMatrix{Rows: s[0], Cols: s[1], A: make([]api.Elem, s[2])}
		checkErrors(t, k, m, one, api.ErrShape)
		for _, field := range bad {
			checkErrors(t, field, m, one, api.ErrForm)
		}
		if n, e := eigen.Of(api.Matrix{Rows: s[0], Cols: s[1], A: make([]api.Rat, s[2])}); e != api.ErrShape || n.Rows+n.Cols+len(n.A) != 0 {
			t.Error("Of", s, n, e)
		}
	}
	for _, field := range bad {
		checkErrors(t, field, one, one, api.ErrForm)
	}
	if m, e := eigen.Mul(k, elements(1, "1,2"), elements(1, "1,2")); e != api.ErrShape || m.Rows+m.Cols+len(m.A) != 0 {
		t.Error(m, e)
	}
}

// checkErrors checks the error of the functions over a field.
func checkErrors(t *testing.T, k api.Field, m, one api.NMatrix, want api.Errno) {
	t.Helper()
	for _, l := range [][2]api.NMatrix{{m, one}, {one, m}} {
		if n, e := eigen.Mul(k, l[0], l[1]); e != want || n.Rows+n.Cols+len(n.A) != 0 {
			t.Error("Mul", k, m, n, e)
		}
	}
	if n, pivots, e := eigen.Echelon(k, m); e != want || n.Rows+n.Cols+len(n.A)+len(pivots) != 0 {
		t.Error("Echelon", k, m, n, e)
	}
	if n, e := eigen.Kernel(k, m); e != want || n.Rows+n.Cols+len(n.A) != 0 {
		t.Error("Kernel", k, m, n, e)
	}
}

// Nothing is written into an argument, and no result shares memory with one or another.
func TestMemory(t *testing.T) { // R3
	r := rand.New(rand.NewSource(6))
	for i, s := range append(fields, fields...) {
		k := modulus(s)
		a, b := random(r, k, 3, 3), random(r, k, 3, 2)
		one, _ := matrix.Identity(3)
		unit, _ := eigen.Of(one)
		block, _ := charpoly.Companion(qpoly.Of(k.Modulus))
		c := conjugated(r, blocks(block, of(1, "1/7")))
		if i%2 == 0 {
			c = blocks(block, of(1, "1/7"))
		}
		f := text(qpoly.Of(k.Modulus)...)
		before := textOf(slices.Concat(a.A, b.A, unit.A, []api.Elem{c.A, one.A})...)
		var results []api.Elem
		keep := func(m api.NMatrix, _ api.Errno) { results = append(results, m.A...) }
		keep(eigen.Of(c))
		keep(eigen.Of(one))
		keep(eigen.Mul(k, a, b))
		keep(eigen.Mul(k, unit, b))
		keep(eigen.Kernel(k, a))
		keep(eigen.Kernel(k, b))
		for _, x := range []api.NMatrix{a, b, unit} {
			m, pivots, e := eigen.Echelon(k, x)
			keep(m, e)
			for i := range pivots[:cap(pivots)] {
				pivots[:cap(pivots)][i] = -1
			}
		}
		field, v, _ := eigen.Vector(c, k.Modulus)
		eigen.Check(c, k, v)
		results = append(results, v...)
		for _, x := range field.Modulus {
			results = append(results, api.Elem{{Num: x}})
		}
		checkMemory(t, results)
		if textOf(slices.Concat(a.A, b.A, unit.A, []api.Elem{c.A, one.A})...) != before || text(qpoly.Of(k.Modulus)...) != f {
			t.Fatal("an argument was changed")
		}
	}
}
