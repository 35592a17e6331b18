package expand_test

import (
	"math"
	"math/rand"
	"reflect"
	"slices"
	"strconv"
	"testing"

	"halfplane/api"
	"halfplane/expand"
	"halfplane/expr"
	"halfplane/heckeseries"
	"halfplane/kind"
	"halfplane/quasimodular"
	"halfplane/rational"
	"halfplane/series"
)

func TestExamples(t *testing.T) { // P54.1, P54.2
	for _, x := range []struct {
		text       string
		prec, need int
		want       api.Series
	}{
		{"E4*E4", 3, 3, of(0, 1, 480, 61920)},
		{"j*Delta", 2, 3, of(0, 1, 720)},
		{"Delta^-1", 1, 1, of(-1, 1, 24)},
		{"U(5, eta(25)[-1, 0, 1])", 2, 6, of(1, 5)},
	} {
		e := parse(t, x.text)
		if a := expansion(t, e, nil, x.prec); !same(a, x.want) {
			t.Errorf("Expand(%s): %v", x.text, a)
		}
		if n, code := expand.Need(e, nil, x.prec); n != x.need || code != api.OK {
			t.Errorf("Need(%s): %d, %d", x.text, n, code)
		}
	}
}

func TestNeed(t *testing.T) { // P54.1
	defs := define(t, "f", "j", "g", "f^3*Delta", "h", "U(2, g) + Delta", "k", "V(3, h)")
	for _, x := range []struct {
		text       string
		prec, need int
	}{
		{"7", 1, 1}, {"7", 800, 800}, {"E4", 17, 17}, {"j", 5, 5}, {"f", 5, 5}, {"newform(11, 2, 1, 63)", 800, 800}, {"Delta^-5", 800, 800}, {"eta(2)[24, -24]^-1", 9, 9}, {"j^0", 800, 800}, {"(j^50)^0", 800, 800}, {"U(512, E4)^0", 800, 800},
		{"E4 + V(2, E4)", 10, 10}, {"V(2, E4) + V(3, E4)", 10, 5}, {"j*j", 10, 11}, {"j*Delta*j^4", 10, 15}, {"E4*j^4*E6", 10, 14}, {"E4*(j^4 + j)", 10, 14}, {"E4*E6*Delta", 10, 10}, {"j^7", 10, 16}, {"j^1", 10, 10}, {"Delta^5", 10, 10}, {"(j^2)^3", 10, 15}, {"(j + j^2)^3", 10, 15}, {"j^100", 10, 109},
		{"V(1, j)", 10, 10}, {"V(2, j)", 10, 5}, {"V(3, j)", 10, 4}, {"V(4, j)", 1, 1}, {"V(100, j)", 800, 8}, {"V(3, j)*Delta", 10, 13}, {"V(2, j^2)", 9, 6}, {"V(600, 1)", 800, 2},
		{"U(1, j)", 10, 10}, {"U(2, j)", 10, 19}, {"U(5, E4)", 1, 1}, {"U(5, E4)", 2, 6}, {"U(1000, E4)", 1, 1}, {"U(10, E4)", 80, 791}, {"U(3, V(3, E4))", 5, 5}, {"U(2, U(3, E4))", 10, 55}, {"U(2, j)*E4", 10, 19}, {"U(2, j)*Delta", 10, 19},
		{"T(1, E4)", 10, 10}, {"T(3, E4)", 10, 28}, {"T(3, E4*j)", 10, 29}, {"twist(-4, j)", 10, 10}, {"twist(1, E4)", 10, 10}, {"twist(-4, j)*Delta", 10, 26}, {"serre(j)", 10, 10}, {"serre(j)*Delta", 10, 11},
		{"bracket(0, j, j)", 10, 11}, {"bracket(6, j^2, j)", 10, 12}, {"bracket(1, j^3, E4)", 10, 13}, {"bracket(1, E4, E6)", 10, 10}, {"bracket(1, Delta, V(2, j))", 10, 12},
		{"g", 10, 13}, {"h", 10, 22}, {"k", 10, 10}, {"f*Delta", 10, 11}, {"k*E4", 30, 48}, {"k + f*E4^3*f", 30, 32}, {"(k + Delta*f)^2", 30, 49},
	} {
		n, code := expand.Need(parse(t, x.text), defs, x.prec)
		if n != x.need || code != api.OK {
			t.Errorf("Need(%s, %d): %d, %d, want %d", x.text, x.prec, n, code, x.need)
		}
	}
}

func TestNeedErrors(t *testing.T) { // P54.1, P54.2
	defs := define(t, "f", "j", "g", "U(2, f)", "h", "newform(11, 2, 1, 5)", "far", "U(400, E4)")
	for _, x := range []struct {
		text string
		prec int
		code api.Errno
	}{
		{"E2", 0, api.ErrKind}, {"x", 1001, api.ErrMissing}, {"E4 + E6", 900, api.ErrKind}, {"j^101", 5, api.ErrLarge}, {"E4^-1", 5, api.ErrPole},
		{"E4", 0, api.ErrRange}, {"E4", -1, api.ErrRange}, {"E4", 1001, api.ErrRange}, {"E4", math.MaxInt, api.ErrRange}, {"E4", math.MinInt, api.ErrRange}, {"h", 0, api.ErrRange}, {"h", 1001, api.ErrRange}, {"7", 1001, api.ErrRange}, {"U(1000, E4)", 0, api.ErrRange},
		{"E4", 801, api.ErrLarge}, {"7", 1000, api.ErrLarge}, {"f", 801, api.ErrLarge}, {"V(2, E4)", 801, api.ErrLarge}, {"j^0", 801, api.ErrLarge}, {"j*j", 800, api.ErrLarge}, {"j^2", 800, api.ErrLarge}, {"j*E4", 800, api.ErrLarge}, {"f*E4", 800, api.ErrLarge}, {"U(2, E4)", 401, api.ErrLarge}, {"U(800, E4)", 2, api.ErrLarge}, {"T(2, E4)", 401, api.ErrLarge}, {"g", 401, api.ErrLarge}, {"bracket(0, j, E4)", 800, api.ErrLarge}, {"bracket(0, E4, j)", 800, api.ErrLarge}, {"far", 3, api.ErrLarge}, {"h + far", 3, api.ErrKind}, {"h*far", 3, api.ErrLarge}, {"h*E4 + h*E4*0", 801, api.ErrLarge}, {"V(2, U(2, E4))", 800, api.OK}, {"V(2, U(3, E4))", 800, api.ErrLarge}, {"V(2, far)", 4, api.OK}, {"V(2, far)", 5, api.ErrLarge}, {"0*U(2, E4)", 401, api.ErrLarge},
		{"E4", 800, api.OK}, {"j*j", 799, api.OK}, {"U(2, E4)", 400, api.OK}, {"far", 2, api.OK}, {"far^0*E4", 800, api.OK}, {"h^0", 800, api.OK}, {"j^100", 701, api.OK}, {"j^100", 702, api.ErrLarge},
	} {
		n, code := expand.Need(parse(t, x.text), defs, x.prec)
		if code != x.code || code != api.OK && n != 0 {
			t.Errorf("Need(%s, %d): %d, %d, want %d", x.text, x.prec, n, code, x.code)
		}
		if x.code == api.OK {
			continue
		}
		if a, code := expand.Expand(parse(t, x.text), defs, x.prec); code != x.code || !reflect.ValueOf(a).IsZero() {
			t.Errorf("Expand(%s, %d): %v, %d, want %d", x.text, x.prec, a, code, x.code)
		}
	}
	for _, x := range []api.Expr{{}, {Op: api.OpE, N: []int{3}}, {Op: api.OpE, N: []int{-1}}} {
		_, want := kind.Of(x, nil)
		if _, code := expand.Need(x, nil, 0); code != want {
			t.Errorf("Need(%v): %d, want %d", x, code, want)
		}
		if _, code := expand.Expand(x, nil, 0); code != want {
			t.Errorf("Expand(%v): %d, want %d", x, code, want)
		}
	}
	if _, code := expand.Expand(parse(t, "E4"), define(t, "a", "b"), 0); code != api.ErrMissing {
		t.Errorf("Expand with bad definitions: %d", code)
	}
}

func TestExpandErrors(t *testing.T) { // P54.2
	defs := define(t, "none", "newform(11, 2, 1, 5)", "many", eighth, "new", "newform(11, 2, 1, 0)", "both", "new*many")
	for _, x := range []struct {
		text string
		prec int
		code api.Errno
	}{
		{"newform(11, 2, 1, 1)", 1, api.ErrRange}, {"newform(10, 2, 1, 0)", 1, api.ErrRange}, {"newform(11, 2, 1, 63)", 800, api.ErrRange}, {"newform(11, 2, 1, 0)", 132, api.ErrLarge}, {"newform(11, 2, 1, 0)", 131, api.OK}, {"newform(11, 17, -11, 0)", 1, api.ErrLarge}, {"newform(11, 17, -11, 63)", 1, api.ErrLarge},
		{eighth, 20, api.ErrLarge}, {eighth, 1, api.OK}, {"none", 20, api.ErrRange}, {"many", 20, api.ErrLarge}, {"new", 132, api.ErrLarge}, {"both", 20, api.ErrLarge}, {"many*none", 20, api.ErrLarge}, {"none*many", 20, api.ErrRange}, {"E4*none*many", 20, api.ErrRange}, {"many*new*none", 20, api.ErrLarge}, {"new*many*none", 20, api.ErrLarge}, {"new*none*many", 132, api.ErrLarge}, {"new*none*many", 131, api.ErrRange}, {"new*newform(11, 2, 1, 2)*many", 131, api.ErrRange},
		// The arguments of a power are asked for nothing if its exponent is 0.
		{"none^0", 20, api.OK}, {"(none*many)^0*new", 20, api.OK}, {"none^2", 20, api.ErrRange}, {"none^1", 20, api.ErrRange},
		{"U(2, new)", 66, api.OK}, {"U(2, new)", 67, api.ErrLarge}, {"T(2, new)", 67, api.ErrLarge}, {"V(5, new)", 655, api.OK}, {"V(5, new)", 656, api.ErrLarge}, {"twist(-4, none)", 9, api.ErrRange}, {"serre(none)", 9, api.ErrRange}, {"bracket(1, new, none)", 9, api.ErrRange}, {"bracket(1, none, many)", 20, api.ErrRange}, {"bracket(1, many, none)", 20, api.ErrLarge}, {"new*j^2 - new*j", 130, api.ErrLarge}, {"new*j^2 - new*j", 129, api.OK}, {"0*none", 5, api.ErrRange},
	} {
		e := parse(t, x.text)
		a, code := expand.Expand(e, defs, x.prec)
		if code != x.code || code != api.OK && !reflect.ValueOf(a).IsZero() {
			t.Errorf("Expand(%s, %d): %v, %d, want %d", x.text, x.prec, a, code, x.code)
		}
	}
}

func TestAtoms(t *testing.T) { // P54.2
	for _, x := range []struct {
		text string
		want api.Series
	}{
		{"-3", of(0, -3, 0, 0, 0)}, {"0", api.Series{From: 4}}, {"E4", of(0, 1, 240, 2160, 6720)}, {"E6", of(0, 1, -504, -16632, -122976)}, {"Delta", of(1, 1, -24, 252)}, {"j", of(-1, 1, 744, 196884, 21493760, 864299970)}, {"eta(11)[2, 2]", of(1, 1, -2, -1)}, {"newform(11, 2, 1, 0)", of(1, 1, -2, -1)}, {"newform(23, 2, 1, 0)", of(1, 2, -1, 0)}, {"theta(2)[2, 0, 0, 2]", of(0, 1, 4, 4, 0)}, {"theta(2)[2, 1, 1, 2]", of(0, 1, 6, 0, 6)}, {"G(3, -4, 1, 1)", of(1, 1, 4, 8)}, {"eta(25)[-1, 0, 1]", of(1, 1, 1, 2)},
		{"Delta^-1", of(-1, 1, 24, 324, 3200, 25650)}, {"Delta^0", of(0, 1, 0, 0, 0)}, {"0^0", of(0, 1, 0, 0, 0)}, {"eta(1)[-24]^-1", of(1, 1, -24, 252)}, {"eta(2)[24, -24]^-1", of(1, 1, 24, 300)}, {"eta(1)[24]^-1", of(-1, 1, 24, 324, 3200, 25650)}, {"eta(2)[24, -24]^-6", api.Series{From: 4}}, {"E4^1", of(0, 1, 240, 2160, 6720)},
		{"1/2*E4 - 1/2*E4", api.Series{From: 4}}, {"E4 - 1/2*E4 - 1/2*E4", api.Series{From: 4}}, {"0*j^3", api.Series{From: 4}}, {"(E4 - E4)^2", api.Series{From: 4}}, {"E8 - E4^2", api.Series{From: 4}}, {"serre(E4)", mustScale(t, -1, 3, of(0, 1, -504, -16632, -122976))}, {"bracket(1, E4, E6)", mustScale(t, -3456, 1, of(1, 1, -24, 252))}, {"T(2, Delta)", of(1, -24, 576, -6048)}, {"T(2, E4)", of(0, 9, 2160, 19440, 60480)}, {"U(2, Delta)", of(1, -24, -1472, -6048)}, {"V(2, Delta)", of(2, 1, 0)}, {"V(3, j)", of(-3, 1, 0, 0, 744, 0, 0, 196884)}, {"twist(-4, Delta)", of(1, 1, 0, -252)}, {"twist(-4, j)", of(-1, -1, 0, 196884, 0, -864299970)},
	} {
		if a := expansion(t, parse(t, x.text), nil, 4); !same(a, x.want) {
			t.Errorf("Expand(%s): %v, want %v", x.text, a, x.want)
		}
	}
}

// mustScale returns a multiple of a series.
func mustScale(t *testing.T, num, den int, a api.Series) api.Series {
	t.Helper()
	x, _ := rational.Quo(rational.Of(num), rational.Of(den))
	b, code := series.Scale(x, a)
	if code != api.OK {
		t.Fatal(code)
	}
	return b
}

// apply is the operation of an expression on expansions of its arguments.
func apply(t *testing.T, e api.Expr, defs []api.Binding, l []api.Series) api.Series {
	t.Helper()
	var a api.Series
	var code api.Errno
	first, _ := kind.Of(e.Args[0], defs)
	second, _ := kind.Of(e.Args[len(e.Args)-1], defs)
	switch e.Op {
	case api.OpSum, api.OpProduct:
		a = l[0]
		for _, b := range l[1:] {
			if e.Op == api.OpSum {
				a, code = series.Add(a, b)
			} else {
				a, code = series.Mul(a, b)
			}
		}
	case api.OpPower:
		a, code = series.Power(l[0], e.N[0])
	case api.OpV:
		a, code = series.Expand(l[0], e.N[0])
	case api.OpU:
		a, code = series.Contract(l[0], e.N[0])
	case api.OpT:
		a, code = heckeseries.Hecke(l[0], api.Spec{Level: first.Level, Weight: first.Weight, Disc: first.Disc}, e.N[0])
	case api.OpTwist:
		a, code = series.Twist(l[0], e.N[0])
	case api.OpSerre:
		a, code = quasimodular.SerreSeries(l[0], first.Weight)
	case api.OpBracket:
		a, code = quasimodular.BracketSeries(api.Weighted{Series: l[0], Weight: first.Weight}, api.Weighted{Series: l[1], Weight: second.Weight}, e.N[0])
	}
	if code != api.OK {
		t.Fatalf("%v: %d", e, code)
	}
	return a
}

func TestOperations(t *testing.T) { // P54.2, P54.3
	r := rand.New(rand.NewSource(54))
	defs := definitions(t)
	seen := map[int]int{}
	for n := 0; n < 400; {
		e, _, code := expr.Parse(random(r, 4))
		if n%10 == 9 {
			e = api.Expr{Op: api.OpT, N: []int{1 + r.Intn(4)}, Args: []api.Expr{e}}
		}
		if code != api.OK || len(e.Args) == 0 {
			continue
		}
		prec := 1 + r.Intn(8)
		k, code := kind.Of(e, defs)
		need, more := expand.Need(e, defs, prec)
		if code != api.OK || more != api.OK || need > 120 {
			continue
		}
		n++
		seen[e.Op]++
		a := expansion(t, e, defs, prec)
		if a.From < -k.Pole {
			t.Fatalf("%v of the kind %v: %v", e, k, a)
		}
		if other := expansion(t, e, defs, max(1, prec-2)); !same(other, cut(t, a, max(1, prec-2))) {
			t.Fatalf("%v: the precisions %d and %d differ: %v, %v", e, prec-2, prec, other, a)
		}
		// Nothing is asked of these arguments.
		if e.Op == api.OpPower && e.N[0] <= 0 {
			continue
		}
		// More of the arguments is known than is needed.
		var l []api.Series
		for _, x := range e.Args {
			more := 130
			for need, _ := expand.Need(x, defs, more); need == 0 || need > 131; need, _ = expand.Need(x, defs, more) {
				more--
			}
			l = append(l, expansion(t, x, defs, more))
		}
		if want := cut(t, apply(t, e, defs, l), prec); !same(a, want) {
			t.Fatalf("%v to the precision %d: %v, want %v", e, prec, a, want)
		}
	}
	for _, op := range []int{api.OpSum, api.OpProduct, api.OpPower, api.OpV, api.OpU, api.OpT, api.OpTwist, api.OpSerre, api.OpBracket} {
		if seen[op] < 5 {
			t.Errorf("the operation %d occurs %d times", op, seen[op])
		}
	}
}

func TestPowersAreProducts(t *testing.T) { // P54.3
	for _, s := range []string{"E4", "Delta", "j", "eta(2)[24, -24]", "Delta^-1", "(j - 744)", "(E4 - E4)", "theta(2)[2, 0, 0, 2]", "V(2, j)"} {
		e := parse(t, s)
		for n := 2; n < 5; n++ {
			power := api.Expr{Op: api.OpPower, N: []int{n}, Args: []api.Expr{e}}
			product := api.Expr{Op: api.OpProduct, Args: slices.Repeat([]api.Expr{e}, n)}
			if a, b := expansion(t, power, nil, 9), expansion(t, product, nil, 9); !same(a, b) {
				t.Errorf("%s^%d: %v and %v", s, n, a, b)
			}
		}
	}
}

func TestNamesAndNormalForms(t *testing.T) { // P54.3
	r := rand.New(rand.NewSource(3))
	defs := definitions(t)
	for n := 0; n < 200; {
		e, _, code := expr.Parse(random(r, 4))
		if code != api.OK {
			continue
		}
		if need, code := expand.Need(e, defs, 5); code != api.OK || need > 120 {
			continue
		}
		n++
		a := expansion(t, e, defs, 5)
		x := e
		for i := len(defs) - 1; i >= 0 && code == api.OK; i-- {
			x, code = expr.Substitute(x, defs[i].Name, defs[i].Expr)
		}
		if code == api.OK {
			if b := expansion(t, x, nil, 5); !same(a, b) {
				t.Errorf("%v with its definitions: %v and %v", e, a, b)
			}
		}
		x, code = expr.Normal(e)
		if code != api.OK {
			continue
		}
		if b, code := expand.Expand(x, defs, 5); code == api.OK && !same(a, b) {
			t.Errorf("%v and its normal form %v: %v and %v", e, x, a, b)
		}
	}
}

func TestIdentities(t *testing.T) { // P54.2
	for _, x := range [][2]string{
		{"E4^3 - E6^2", "1728*Delta"}, {"E4^3*Delta^-1", "j"}, {"(j - 1728)*Delta", "E6^2"}, {"eta(11)[2, 2]", "newform(11, 2, 1, 0)"}, {"theta(2)[2, 0, 0, 2]^2", "8*G(2, 1, 1, 4)"}, {"T(5, Delta)", "4830*Delta"}, {"U(3, Delta) + 3^11*V(3, Delta)", "252*Delta"}, {"twist(-4, twist(-4, Delta))", "Delta - V(2, U(2, Delta))"}, {"serre(E6)", "-1/2*E8"}, {"bracket(2, E4, E4)", "4800*Delta"}, {"eta(4)[-4, 10, -4]", "theta(2)[2, 0, 0, 2]"}, {"E10", "E4*E6"}, {"eta(2)[24, -24] + 24", "eta(2)[24, -24] + 24"},
	} {
		a, b := expansion(t, parse(t, x[0]), nil, 40), expansion(t, parse(t, x[1]), nil, 40)
		if !same(a, b) {
			t.Errorf("%s and %s: %v and %v", x[0], x[1], a, b)
		}
	}
}

func TestManyNames(t *testing.T) { // P54.1, P54.2
	// Each definition uses the one before it often; a name is expanded once.
	l := []string{"x0", "E4"}
	for i := 1; i < 40; i++ {
		before := "x" + strconv.Itoa(i-1)
		l = append(l, "x"+strconv.Itoa(i), before+" + V(1, "+before+") - "+before+" + twist(1, "+before+") - "+before)
	}
	defs := define(t, l...)
	if a := expansion(t, parse(t, "x39 + 2*x39 - x39"), defs, 3); !same(a, of(0, 2, 480, 4320)) {
		t.Errorf("x39: %v", a)
	}
	if n, code := expand.Need(parse(t, "x39*x38"), defs, 77); n != 77 || code != api.OK {
		t.Errorf("Need: %d, %d", n, code)
	}
}

func TestMemory(t *testing.T) { // R3, R4, R10
	text, definition := "3/2*f*eta(11)[2, 2] + f^2*theta(2)[2, 1, 1, 2]^0 + V(2, f)*f", "newform(11, 2, 1, 0)"
	e, defs := parse(t, text), define(t, "f", definition)
	a := expansion(t, e, defs, 9)
	b := expansion(t, e, defs, 9)
	if !reflect.DeepEqual(e, parse(t, text)) || !reflect.DeepEqual(defs, define(t, "f", definition)) {
		t.Errorf("Expand wrote into its arguments")
	}
	for i := range b.Coef {
		clear(b.Coef[i].Num.Mag)
		clear(b.Coef[i].Den.Mag)
	}
	spoil(e)
	spoil(defs[0].Expr)
	if want := expansion(t, parse(t, text), define(t, "f", definition), 9); !same(a, want) {
		t.Errorf("Expand keeps an argument: %v, want %v", a, want)
	}
	number := api.Rat{Num: api.Int{Neg: true, Mag: []uint32{4, 0}}, Den: api.Int{Neg: true, Mag: []uint32{6, 0, 0}}}
	a = expansion(t, api.Expr{Op: api.OpNumber, C: number}, nil, 1)
	if want := mustScale(t, 2, 3, of(0, 1)); !same(a, want) {
		t.Errorf("4/6: %v", a)
	}
	if number.Num.Mag[0] = 5; !same(a, mustScale(t, 2, 3, of(0, 1))) {
		t.Errorf("Expand keeps a number")
	}
	if a = expansion(t, api.Expr{Op: api.OpNumber, C: api.Rat{Num: api.Int{Mag: []uint32{7}}}}, nil, 2); !same(a, api.Series{From: 2}) {
		t.Errorf("7/0: %v", a)
	}
}
