package identity_test

import (
	"math/rand"
	"reflect"
	"slices"
	"testing"

	"halfplane/api"
	"halfplane/bigint"
	"halfplane/expand"
	"halfplane/identity"
	"halfplane/kind"
	"halfplane/rational"
	"halfplane/series"
)

func TestExamples(t *testing.T) { // P55.1
	for _, x := range []struct {
		l, r  string
		kind  api.FormKind
		bound int
		coef  api.Series
	}{
		{"E4^2", "E8", api.FormKind{Weight: 8, Level: 1, Disc: 1}, 0, of(0, 1)},
		{"E4^3 - E6^2", "1728*Delta", api.FormKind{Weight: 12, Level: 1, Disc: 1}, 1, of(1, 1728)},
		{"theta(2)[2, 0, 0, 2]^2", "8*G(2, 1, 1, 4)", api.FormKind{Weight: 2, Level: 4, Disc: 1}, 1, of(0, 1, 8)},
	} {
		want := api.Certificate{Left: parse(t, x.l), Right: parse(t, x.r), Kind: x.kind, Bound: x.bound, Coef: x.coef}
		if c := prove(t, x.l, x.r, nil); !sameCertificate(c, want) {
			t.Errorf("%s = %s: %v, want %v", x.l, x.r, c, want)
		}
	}
	for _, x := range []struct {
		l, r string
		n    int
		code api.Errno
	}{
		{"E4", "E4 + Delta", 0, api.ErrKind}, {"E12", "E4^3", 1, api.ErrDiffer},
	} {
		if c, n, code := identity.Prove(parse(t, x.l), parse(t, x.r), nil); n != x.n || code != x.code || !reflect.ValueOf(c).IsZero() {
			t.Errorf("%s = %s: %v, %d, %d", x.l, x.r, c, n, code)
		}
	}
	m, code := identity.Relations(list(t, "E4^3", "E6^2", "Delta"), nil)
	if want := (api.Matrix{Rows: 1, Cols: 3, A: of(0, 1, -1, -1728).Coef}); !reflect.DeepEqual(m, want) || code != api.OK {
		t.Errorf("Relations: %v, %d", m, code)
	}
}

// identities are expressions that are equal.
func identities() [][2]string {
	return [][2]string{
		{"E4*E10", "E14"}, {"E4*E6", "E10"}, {"eta(1)[24]", "Delta"}, {"eta(11)[2, 2]", "newform(11, 2, 1, 0)"}, {"eta(14)[1, 1, 1, 1]", "newform(14, 2, 1, 0)"}, {"eta(4)[-4, 10, -4]", "theta(2)[2, 0, 0, 2]"}, {"E4^3*Delta^-1", "j"}, {"(j - 1728)*Delta", "E6^2"},
		{"T(2, Delta)", "-24*Delta"}, {"T(3, E4)", "28*E4"}, {"U(2, eta(2)[8, 8])", "-8*eta(2)[8, 8]"}, {"U(5, eta(25)[-1, 0, 1])", "5*eta(5)[-6, 6]"}, {"U(2, Delta) + 2048*V(2, Delta)", "-24*Delta"}, {"V(2, V(3, Delta))", "V(6, Delta)"}, {"twist(-4, eta(4)[-4, 10, -4])", "eta(4)[-4, 10, -4] - U(1, V(1, eta(4)[-4, 10, -4])) + twist(-4, theta(2)[2, 0, 0, 2])"},
		{"serre(E6)", "-1/2*E8"}, {"serre(E4)", "-1/3*E6"}, {"serre(Delta)", "0*Delta*G(2, 1, 1, 2)"}, {"bracket(1, E4, E6)", "-3456*Delta"}, {"bracket(2, E4, E4)", "4800*Delta"}, {"theta(2)[2, 1, 1, 2]^2", "12*G(2, 1, 1, 3)"}, {"theta(4)[2, 1, 0, 0, 1, 2, 0, 0, 0, 0, 2, 1, 0, 0, 1, 2]", "theta(2)[2, 1, 1, 2]^2"}, {"0*E4", "E4 - E4"}, {"f*g", "Delta*E10"}, {"V(2, j)^3 + j^3 + 1488*(V(2, j)^2*j + V(2, j)*j^2) + 40773375*V(2, j)*j + 8748000000*(V(2, j) + j) - 157464000000000", "V(2, j)^2*j^2 + 162000*(V(2, j)^2 + j^2)"},
	}
}

func TestProve(t *testing.T) { // P55.1, P55.2, P55.3, P55.5
	defs := define(t, "f", "E4*E6", "g", "Delta")
	for _, x := range identities() {
		l, r := parse(t, x[0]), parse(t, x[1])
		c := prove(t, x[0], x[1], defs)
		first, _ := kind.Of(l, defs)
		second, _ := kind.Of(r, defs)
		k, _ := kind.Join(first, second)
		bound, _ := kind.Bound(k)
		coef, _ := expand.Expand(l, defs, max(bound+1, 1))
		if want := (api.Certificate{Left: l, Right: r, Defs: defs, Kind: k, Bound: bound, Coef: coef}); !sameCertificate(c, want) {
			t.Errorf("%s = %s: %v, want %v", x[0], x[1], c, want)
		}
		if code := identity.Check(c); code != api.OK {
			t.Errorf("Check of %s = %s: %d", x[0], x[1], code)
		}
		// The expansions agree to other precisions, too.
		prec := min(bound+30, 120)
		a, code := identity.Extend(c, prec)
		b, more := expand.Expand(r, defs, prec)
		if code != api.OK || more != api.OK || !same(a, b) || a.From+len(a.Coef) != prec {
			t.Errorf("Extend of %s = %s: %v, %d and %v, %d", x[0], x[1], a, code, b, more)
		}
		if c, n, code := identity.Prove(r, l, defs); code != api.OK || n != 0 || !sameExpr(c.Left, r) || !same(c.Coef, coef) {
			t.Errorf("%s = %s: %v, %d, %d", x[1], x[0], c, n, code)
		}
	}
}

func TestDiffer(t *testing.T) { // P55.1, P55.5
	defs := define(t, "f", "Delta", "none", "newform(11, 2, 1, 5)", "far", "newform(11, 2, 1, 0) + V(50, newform(11, 2, 1, 0))", "new", "newform(11, 2, 1, 0)")
	for _, x := range []struct {
		l, r string
		n    int
		code api.Errno
	}{
		{"E4", "2*E4", 0, api.ErrDiffer}, {"1", "2", 0, api.ErrDiffer}, {"Delta", "2*f", 1, api.ErrDiffer}, {"Delta*j", "E4^3 - 720*Delta*j^0 + f", 1, api.ErrDiffer}, {"j", "2*j", -1, api.ErrDiffer}, {"j", "j + 1", 0, api.ErrDiffer}, {"j^3", "j^3 + j^2", -2, api.ErrDiffer}, {"Delta^2", "0*E4^6", 2, api.ErrDiffer}, {"E4^6", "E4^6 + Delta^2", 2, api.ErrDiffer}, {"0*E4^6", "f*E4^3 - 744*Delta^2", 1, api.ErrDiffer}, {"eta(2)[-8, 16]", "0*E4", 1, api.ErrDiffer}, {"eta(11)[2, 2]", "newform(11, 2, 1, 0) + eta(11)[2, 2]", 1, api.ErrDiffer}, {"Delta^-1", "2*Delta^-1", -1, api.ErrDiffer}, {"V(2, j)", "V(2, j) + j", -1, api.ErrDiffer}, {"V(10, Delta)", "V(5, Delta)", 5, api.ErrDiffer},
		{"E2", "x", 0, api.ErrKind}, {"x", "E2", 0, api.ErrMissing}, {"E4", "x", 0, api.ErrMissing}, {"V(601, E4)", "x", 0, api.ErrLarge}, {"E4", "E6", 0, api.ErrKind}, {"E4", "theta(2)[2, 0, 0, 2]*theta(2)[2, 1, 1, 2]*G(2, 1, 1, 2)", 0, api.ErrKind}, {"V(599, E4)", "V(2, E4)", 0, api.ErrLarge}, {"V(300, Delta)", "V(300, f)", 0, api.ErrLarge}, {"none", "new", 0, api.ErrRange}, {"new", "none", 0, api.ErrRange}, {"far", "new", 0, api.ErrLarge}, {"new", "far", 0, api.ErrLarge}, {"none", "far", 0, api.ErrRange}, {"far", "none", 0, api.ErrLarge}, {"none", "E4", 0, api.ErrKind}, {"none", "V(600, E4)", 0, api.ErrKind},
	} {
		if c, n, code := identity.Prove(parse(t, x.l), parse(t, x.r), defs); n != x.n || code != x.code || !reflect.ValueOf(c).IsZero() {
			t.Errorf("%s = %s: %v, %d, %d, want %d, %d", x.l, x.r, c, n, code, x.n, x.code)
		}
	}
	if _, _, code := identity.Prove(api.Expr{}, parse(t, "x"), nil); code != api.ErrForm {
		t.Errorf("Prove of no expression: %d", code)
	}
	if _, _, code := identity.Prove(api.Expr{}, parse(t, "x"), define(t, "a", "b")); code != api.ErrMissing {
		t.Errorf("Prove with bad definitions: %d", code)
	}
}

func TestCheck(t *testing.T) { // P55.2
	defs := define(t, "f", "1/2*E4", "g", "f + f")
	c := prove(t, "g^2", "E8", defs)
	if code := identity.Check(c); code != api.OK {
		t.Fatalf("Check: %d", code)
	}
	two := bigint.Of(2)
	for i, spoilt := range []func(c *api.Certificate){
		func(c *api.Certificate) { *c = api.Certificate{} },
		func(c *api.Certificate) { c.Left = parse(t, "E4*E4 + 1728*Delta") },
		func(c *api.Certificate) { c.Left = parse(t, "2*E8") },
		func(c *api.Certificate) { c.Right = parse(t, "2*E8") },
		func(c *api.Certificate) { c.Left, c.Right = parse(t, "2*E8"), parse(t, "2*E8") },
		func(c *api.Certificate) { c.Left = parse(t, "x") },
		func(c *api.Certificate) { c.Right = api.Expr{} },
		func(c *api.Certificate) { c.Defs = nil },
		func(c *api.Certificate) { c.Defs[0].Name = "h" },
		func(c *api.Certificate) { c.Defs[0].Expr.Args[1].N[0] = 6 },
		func(c *api.Certificate) { c.Defs = append(c.Defs, c.Defs[0]) },
		func(c *api.Certificate) { c.Kind.Weight = 9 },
		func(c *api.Certificate) { c.Kind.Level = 2 },
		func(c *api.Certificate) { c.Kind.Disc = 0 },
		func(c *api.Certificate) { c.Kind.Pole = 1 },
		func(c *api.Certificate) { c.Kind.Cusp = true },
		func(c *api.Certificate) { c.Bound = 1 },
		func(c *api.Certificate) { c.Bound = -1 },
		func(c *api.Certificate) { c.Coef = of(0, 1, 480) },
		func(c *api.Certificate) { c.Coef = api.Series{} },
		func(c *api.Certificate) { c.Coef = of(1) },
		func(c *api.Certificate) { c.Coef = of(0, 2) },
		func(c *api.Certificate) { c.Coef = of(-1, 0, 1) },
		func(c *api.Certificate) { c.Coef.Coef[0] = api.Rat{Num: two, Den: two} },
		func(c *api.Certificate) { c.Coef.Coef[0].Num.Mag = []uint32{1, 0} },
		func(c *api.Certificate) {
			c.Coef.Coef[0].Num.Neg, c.Coef.Coef[0].Den.Neg = true, true
		},
		func(c *api.Certificate) { c.Coef.From = 1 << 62; c.Coef.Coef = nil },
	} {
		other := prove(t, "g^2", "E8", defs)
		spoilt(&other)
		if code := identity.Check(other); code != api.ErrProof {
			t.Errorf("Check of the spoilt certificate %d: %d", i, code)
		}
		if a, code := identity.Extend(other, 0); code != api.ErrProof || !reflect.ValueOf(a).IsZero() {
			t.Errorf("Extend of the spoilt certificate %d: %v, %d", i, a, code)
		}
	}
	// Other expressions may have the same proof, and definitions that are not used may stand
	// beside. A certificate need not be made by Prove.
	c.Left, c.Right = parse(t, "E8"), parse(t, "4*f^2")
	c.Defs = append(c.Defs, define(t, "h", "j")...)
	c.Defs[0].Expr.Args[0].C = api.Rat{Num: api.Int{Neg: true, Mag: []uint32{3, 0}}, Den: api.Int{Neg: true, Mag: []uint32{6}}}
	if code := identity.Check(c); code != api.OK {
		t.Errorf("Check of E8 = 4*f^2: %d", code)
	}
	// A 0 of a coefficient has to be written 0/1, too.
	c = prove(t, "V(3, Delta)", "V(3, Delta)*1", nil)
	if c.Coef.Coef[1] = (api.Rat{}); identity.Check(c) != api.ErrProof {
		t.Errorf("0/0 is accepted")
	}
	// Of no expression that is 0 is a coefficient written.
	c = prove(t, "E4 - E4", "0*E4", nil)
	if want := (api.Series{From: 1}); !same(c.Coef, want) {
		t.Errorf("0: %v", c)
	}
	if c.Coef = of(0, 0); identity.Check(c) != api.ErrProof {
		t.Errorf("0 + O(q) is accepted")
	}
	// Expressions that differ have no certificate, even where they agree for long.
	a, _ := expand.Expand(parse(t, "V(2, Delta)"), nil, 4)
	c = api.Certificate{Left: parse(t, "V(2, Delta)"), Right: parse(t, "V(2, Delta) + V(4, Delta)"), Kind: api.FormKind{Weight: 12, Level: 4, Disc: 1, Cusp: true}, Bound: 3, Coef: a}
	if identity.Check(c) != api.ErrProof {
		t.Errorf("a bound that is too low is accepted")
	}
	// The expansions need to exist.
	c = api.Certificate{Left: parse(t, "newform(11, 2, 1, 5)"), Right: parse(t, "newform(11, 2, 1, 5)"), Kind: api.FormKind{Weight: 2, Level: 11, Disc: 1, Cusp: true}, Bound: 2, Coef: api.Series{From: 3}}
	if identity.Check(c) != api.ErrProof {
		t.Errorf("a certificate without an expansion is accepted")
	}
	// Not even a negative bound needs more than one coefficient.
	c = prove(t, "Delta^-1*E4", "E4*Delta^-1", nil)
	if c.Bound != -1 || !same(c.Coef, of(-1, 1, 264)) || identity.Check(c) != api.OK {
		t.Errorf("a negative bound: %v", c)
	}
}

func TestExtend(t *testing.T) { // P55.3
	c := prove(t, "E4^3 - E6^2", "1728*Delta", nil)
	for _, x := range []struct {
		prec int
		code api.Errno
	}{
		{1, api.OK}, {2, api.OK}, {50, api.OK}, {0, api.ErrRange}, {-1, api.ErrRange}, {1001, api.ErrRange}, {801, api.ErrLarge},
	} {
		a, code := identity.Extend(c, x.prec)
		want, _ := expand.Expand(parse(t, "1728*Delta"), nil, x.prec)
		if code != x.code || !same(a, want) {
			t.Errorf("Extend to %d: %v, %d", x.prec, a, code)
		}
	}
	c = prove(t, "newform(11, 2, 1, 0)", "eta(11)[2, 2]", nil)
	if _, code := identity.Extend(c, 132); code != api.ErrLarge {
		t.Errorf("Extend of a newform: %d", code)
	}
	c = prove(t, "eta(11)[2, 2]", "newform(11, 2, 1, 0)", nil)
	if a, code := identity.Extend(c, 132); a.From+len(a.Coef) != 132 || code != api.OK {
		t.Errorf("Extend of an eta quotient: %v, %d", a, code)
	}
}

func TestTransitive(t *testing.T) { // P55.5
	for _, l := range [][]string{
		{"E4^3 - E6^2", "1728*Delta", "1728*eta(1)[24]", "1/2*bracket(1, E4, E6)*(-1)"}, {"theta(2)[2, 0, 0, 2]^2", "8*G(2, 1, 1, 4)", "eta(4)[-4, 10, -4]^2", "eta(4)[-8, 20, -8]", "theta(4)[2, 0, 0, 0, 0, 2, 0, 0, 0, 0, 2, 0, 0, 0, 0, 2]"},
	} {
		for _, a := range l {
			for _, b := range l {
				prove(t, a, b, nil)
			}
		}
	}
}

func TestRelations(t *testing.T) { // P55.4, P55.5
	defs := define(t, "f", "Delta", "theta2", "theta(2)[2, 0, 0, 2]")
	for _, x := range []struct {
		list []string
		rows [][]int
	}{
		{[]string{"E4"}, nil}, {[]string{"0*E4"}, [][]int{{1}}}, {[]string{"E4", "2*E4"}, [][]int{{2, -1}}}, {[]string{"Delta", "E4^3", "E6^2"}, [][]int{{-1728, 1, -1}}}, {[]string{"E4^3", "E6^2"}, nil}, {[]string{"E12", "E4^3", "E6^2"}, [][]int{{691, -441, -250}}},
		{[]string{"f", "0*f", "Delta", "E4^3", "f*j"}, [][]int{{1, 0, -1, 0, 0}, {0, 1, 0, 0, 0}, {0, 0, 0, 1, -1}}},
		{[]string{"theta2^2", "G(2, 1, 1, 2)", "G(2, 1, 1, 4)"}, [][]int{{1, 0, -8}}}, {[]string{"G(2, 1, 1, 2)", "G(2, 1, 1, 4)"}, nil}, {[]string{"G(3, 1, -4, 1)", "G(3, -4, 1, 1)", "theta2^3"}, [][]int{{4, -16, 1}}},
		{[]string{"1", "j", "j^2", "E4^3*Delta^-1"}, [][]int{{0, 1, 0, -1}}}, {[]string{"eta(11)[2, 2]", "G(2, 1, 1, 11)"}, nil}, {[]string{"eta(11)[2, 2]", "newform(11, 2, 1, 0)", "G(2, 1, 1, 11)"}, [][]int{{1, -1, 0}}}, {[]string{"Delta^-1*E4", "0*Delta^-1*E4", "Delta^-1*E4*3"}, [][]int{{3, 0, -1}, {0, 1, 0}}},
		{[]string{"U(2, j)", "1", "eta(2)[-24, 24]", "eta(2)[-24, 24]^2", "eta(2)[-24, 24]^3", "eta(2)[-24, 24]^4"}, [][]int{{1, -744, -21493760, -19730006016, -3 << 40, -1 << 47}}},
	} {
		l := list(t, x.list...)
		m, code := identity.Relations(l, defs)
		if code != api.OK || m.Cols != len(l) || m.Rows != len(x.rows) || len(m.A) != m.Rows*m.Cols {
			t.Errorf("Relations(%v): %v, %d", x.list, m, code)
			continue
		}
		for i := range m.Rows {
			row := m.A[i*m.Cols : (i+1)*m.Cols]
			if a := combination(t, row, l, defs, 40); len(a.Coef) > 0 {
				t.Errorf("a relation of %v does not hold: %v", x.list, row)
			}
			// The rows are written as multiples.
			first := slices.IndexFunc(x.rows[i], func(n int) bool { return n != 0 })
			for j, c := range row {
				if want, _ := rational.Quo(rational.Of(x.rows[i][j]), rational.Of(x.rows[i][first])); !sameRat(c, want) {
					t.Errorf("Relations(%v): %v, want %v", x.list, m, x.rows)
				}
			}
		}
	}
	for _, x := range listErrors(t) {
		if m, code := identity.Relations(x.list, x.defs); code != x.code || !reflect.ValueOf(m).IsZero() {
			t.Errorf("Relations(%v): %v, %d, want %d", x.list, m, code, x.code)
		}
		if len(x.list) == 0 {
			continue
		}
		if c, code := identity.Combination(x.list[0], x.list[1:], x.defs); code != x.code || len(c) != 0 {
			t.Errorf("Combination(%v): %v, %d, want %d", x.list, c, code, x.code)
		}
	}
	if m, code := identity.Relations(slices.Repeat(list(t, "j"), 24), nil); m.Rows != 23 || code != api.OK {
		t.Errorf("24 expressions: %v, %d", m, code)
	}
}

// listErrors are lists of expressions with errors.
func listErrors(t *testing.T) []struct {
	list []api.Expr
	defs []api.Binding
	code api.Errno
} {
	defs := define(t, "f", "Delta", "none", "newform(11, 2, 1, 5)", "far", "newform(11, 2, 1, 0) + V(50, newform(11, 2, 1, 0))", "new", "newform(11, 2, 1, 0)")
	many := slices.Repeat(list(t, "x"), 25)
	return []struct {
		list []api.Expr
		defs []api.Binding
		code api.Errno
	}{
		{nil, nil, api.ErrRange}, {nil, define(t, "a", "b"), api.ErrRange}, {many, nil, api.ErrRange}, {many[:24], nil, api.ErrMissing}, {list(t, "E4"), define(t, "a", "b"), api.ErrMissing},
		{list(t, "E2", "x"), nil, api.ErrKind}, {list(t, "x", "E2"), nil, api.ErrMissing}, {list(t, "E4", "E6", "x"), nil, api.ErrMissing}, {list(t, "E4", "E4", "E6"), nil, api.ErrKind}, {list(t, "V(599, E4)", "V(2, E4)", "E6"), nil, api.ErrLarge}, {list(t, "V(599, E4)", "E6", "V(2, E4)"), nil, api.ErrKind},
		{list(t, "V(599, E4)", "E4", "V(2, E4)"), nil, api.ErrLarge}, {list(t, "V(300, Delta)", "f"), defs, api.ErrLarge}, {list(t, "none", "far"), defs, api.ErrRange}, {list(t, "new", "far", "none"), defs, api.ErrLarge}, {list(t, "new", "none", "far"), defs, api.ErrLarge}, {list(t, "new", "none", "V(2, new)"), defs, api.ErrRange}, {list(t, "none", "V(300, new)"), defs, api.ErrLarge}, {append(list(t, "E4"), api.Expr{}), nil, api.ErrForm},
	}
}

func TestCombination(t *testing.T) { // P55.4
	defs := define(t, "f", "Delta", "theta2", "theta(2)[2, 0, 0, 2]")
	for _, x := range []struct {
		e    string
		list []string
		want []int
		code api.Errno
	}{
		{"E8", []string{"E4^2"}, []int{1}, api.OK}, {"E6^2", []string{"E4^3", "f"}, []int{1, -1728}, api.OK}, {"Delta", []string{"f", "E4^3", "Delta"}, []int{0, 0, 1}, api.OK}, {"E4^3", []string{"E6^2", "E6^2", "f", "0*f", "f"}, []int{0, 1, 0, 0, 1728}, api.OK}, {"0*E4", []string{"E4"}, []int{0}, api.OK}, {"0*E4", []string{"E4", "2*E4"}, []int{0, 0}, api.OK}, {"0*E4", nil, nil, api.OK}, {"E4 - 2*E4 + E4", nil, nil, api.OK}, {"theta2^2", []string{"G(2, 1, 1, 2)", "G(2, 1, 1, 4)"}, []int{0, 8}, api.OK}, {"j", []string{"E4^3*Delta^-1", "1"}, []int{1, 0}, api.OK}, {"j^2", []string{"(j - 3)^2", "5*j", "3", "j"}, []int{1, 0, -3, 6}, api.OK},
		{"E4", nil, nil, api.ErrMember}, {"E4^3", []string{"f"}, nil, api.ErrMember}, {"E4^3", []string{"0*f"}, nil, api.ErrMember}, {"j^3", []string{"j", "j^2", "1"}, nil, api.ErrMember}, {"V(2, Delta)", []string{"f", "V(3, Delta)", "V(4, Delta)"}, nil, api.ErrMember}, {"eta(11)[2, 2]", []string{"G(2, 1, 1, 11)"}, nil, api.ErrMember},
	} {
		l := list(t, x.list...)
		c, code := identity.Combination(parse(t, x.e), l, defs)
		if code != x.code {
			t.Errorf("Combination(%s, %v): %v, %d, want %d", x.e, x.list, c, code, x.code)
			continue
		}
		if code != api.OK {
			if len(c) != 0 {
				t.Errorf("Combination(%s, %v): %v beside an error", x.e, x.list, c)
			}
			continue
		}
		a, _ := expand.Expand(parse(t, x.e), defs, 20)
		if n, differ, _ := series.Differ(a, combination(t, c, l, defs, 20)); differ {
			t.Errorf("Combination(%s, %v): %v differs at %d", x.e, x.list, c, n)
		}
		if !slices.EqualFunc(c, of(0, x.want...).Coef, sameRat) {
			t.Errorf("Combination(%s, %v): %v, want %v", x.e, x.list, c, x.want)
		}
	}
	if _, code := identity.Combination(parse(t, "E4"), slices.Repeat(list(t, "E4"), 24), nil); code != api.ErrRange {
		t.Errorf("25 expressions: %d", code)
	}
	if c, code := identity.Combination(parse(t, "E4"), slices.Repeat(list(t, "E4"), 23), nil); len(c) != 23 || rational.Cmp(c[22], rational.Of(1)) != 0 || code != api.OK {
		t.Errorf("24 expressions: %v, %d", c, code)
	}
}

func TestRandomRelations(t *testing.T) { // P55.4, P55.5
	r := rand.New(rand.NewSource(55))
	for range 30 {
		all := [][]string{
			{"E4^3", "E6^2", "Delta", "E12", "V(2, Delta)", "V(2, E12)", "U(2, Delta)", "E4*E8", "eta(2)[8, 8]*E4", "eta(2)[8, 8]*V(2, E4)", "eta(2)[24, 0]", "Delta*1/7"},
			{"theta(2)[2, 0, 0, 2]^2", "G(2, 1, 1, 2)", "G(2, 1, 1, 4)", "eta(4)[-8, 20, -8]", "eta(4)[0, -4, 8]", "eta(4)[8, -4, 0]", "V(2, G(2, 1, 1, 2))", "0*G(2, 1, 1, 2)"},
			{"1", "j", "j^2", "j^3", "E4^3*Delta^-1", "(j - 1)^2", "E6^2*Delta^-1", "j*(j - 1728)", "E4^6*Delta^-2", "(j + 1)*(j - 1)*j"},
		}[r.Intn(3)]
		r.Shuffle(len(all), func(i, j int) { all[i], all[j] = all[j], all[i] })
		l := list(t, all[:1+r.Intn(len(all))]...)
		m, code := identity.Relations(l, nil)
		if code != api.OK {
			t.Fatalf("Relations(%v): %d", all, code)
		}
		pivots := map[int]bool{}
		for i := range m.Rows {
			row := m.A[i*m.Cols : (i+1)*m.Cols]
			if a := combination(t, row, l, nil, 25); len(a.Coef) > 0 {
				t.Fatalf("a relation of %v does not hold: %v", all, row)
			}
			pivots[slices.IndexFunc(row, func(x api.Rat) bool { return rational.Sign(x) != 0 })] = true
		}
		// Each element is a combination of the others, or of none, as the relations tell.
		c, code := identity.Combination(l[0], l[1:], nil)
		if found := m.Rows > 0 && rational.Sign(m.A[0]) != 0; found != (code == api.OK) {
			t.Fatalf("Combination(%v): %v, %d, relations %v", all, c, code, m)
		}
		for i := range c {
			if pivots[i+1] && rational.Sign(c[i]) != 0 {
				t.Fatalf("Combination(%v): %v uses the element %d", all, c, i+1)
			}
			if want := rational.Neg(m.A[i+1]); !sameRat(c[i], want) {
				t.Fatalf("Combination(%v): %v, relations %v", all, c, m)
			}
		}
	}
}

func TestMemory(t *testing.T) { // R3
	build := func() (l, r api.Expr, defs []api.Binding) {
		l, r = disguise(parse(t, "3/2*f + eta(11)[2, 2]")), parse(t, "5/2*eta(11)[2, 2] + 0*f")
		return l, r, disguiseAll(define(t, "f", "newform(11, 2, 1, 0)", "g", "2/3*E4^2"))
	}
	l, r, defs := build()
	c, _, code := identity.Prove(l, r, defs)
	if code != api.OK {
		t.Fatalf("Prove: %d", code)
	}
	a, b, bound := build()
	want := api.Certificate{Left: a, Right: b, Defs: bound, Kind: api.FormKind{Weight: 2, Level: 11, Disc: 1, Cusp: true}, Bound: 2, Coef: c.Coef}
	want.Coef, _ = expand.Expand(a, bound, 3)
	seen := map[any]bool{}
	for _, p := range slices.Concat(slicesOfAll(c), slicesOfAll(api.Certificate{Left: l, Right: r, Defs: defs})) {
		if seen[p] {
			t.Fatalf("two slices share memory: %v", c)
		}
		seen[p] = true
	}
	spoil(l)
	spoil(r)
	spoil(defs[0].Expr)
	spoil(defs[1].Expr)
	defs[0].Name = "x"
	if !sameCertificate(c, want) || identity.Check(c) != api.OK {
		t.Errorf("Prove: %v, want %v", c, want)
	}
	before := append(list(t, "E4", "3/2*E4"), api.Expr{})[:2]
	x, code := identity.Combination(before[0], before[1:], nil)
	if code != api.OK || !reflect.DeepEqual(before, list(t, "E4", "3/2*E4")) {
		t.Errorf("Combination wrote into its arguments: %v, %d", before, code)
	}
	spoil(before[1])
	if want, _ := rational.Quo(rational.Of(2), rational.Of(3)); !sameRat(x[0], want) {
		t.Errorf("Combination: %v", x)
	}
}
