package expr_test

import (
	"math"
	"math/rand"
	"slices"
	"strings"
	"testing"

	"halfplane/api"
	"halfplane/expr"
	"halfplane/rational"
)

func TestIsName(t *testing.T) { // P52.1
	for _, s := range []string{
		"a", "Z", "f1", "E", "e4", "E4a", "Ea4", "EE4", "Gg", "G1", "etas", "Eta", "THETA", "theta2", "delta", "Deltas", "J", "j2", "Newform", "v", "u", "t", "V1", "Twist", "Serre", "brackets", "W", strings.Repeat("a", 20), "z" + strings.Repeat("9", 19), "abcdefghijklmnopqrst", "uvwxyzABCDEFGHIJKLMN", "OPQRSTUVWXYZ01234567",
	} {
		if !expr.IsName(s) {
			t.Errorf("IsName(%q) is false", s)
		}
	}
	for _, s := range []string{
		"", "G", "eta", "theta", "Delta", "j", "newform", "V", "U", "T", "twist", "serre", "bracket", "E4", "E0", "E007", "E1234567890123456789", strings.Repeat("a", 21), "1", "1a", "_", "a_b", "a b", " a", "a ", "a-", "a.", "é", "aé", "a\x00", "\xff", "a\xff", "ａ", "a١", "@", "[", "`", "{", "a/", "a:", "+",
	} {
		if expr.IsName(s) {
			t.Errorf("IsName(%q) is true", s)
		}
	}
	for n := range 256 {
		s := string([]byte{byte(n)})
		letter := n >= 'a' && n <= 'z' || n >= 'A' && n <= 'Z'
		word := strings.Contains("GjVUT", s)
		if expr.IsName(s) != (letter && !word) || expr.IsName("a"+s) != (letter || n >= '0' && n <= '9') {
			t.Errorf("IsName of the byte %d", n)
		}
	}
}

// valid are valid expressions at the limits.
func valid() []api.Expr {
	return []api.Expr{
		number(0), fraction(-3, 2), {Op: api.OpNumber}, {Op: api.OpNumber, C: api.Rat{Num: api.Int{Neg: true, Mag: []uint32{4, 0}}, Den: api.Int{Mag: []uint32{6}}}},
		e(0), e(1000000), delta, j, a, integers(api.OpG, -1000000, 1000000, 0, 7), integers(api.OpNewform, 0, 0, 0, 0),
		integers(api.OpEta, 0, 0), integers(api.OpEta, make([]int, 41)...), integers(api.OpTheta, 0, 0), integers(api.OpTheta, make([]int, 65)...), integers(api.OpEta, 1000000, -1000000),
		sum(a, a), product(a, number(1), a), power(a, 200), power(a, -200), power(a, 0), apply(api.OpV, 1, a), apply(api.OpV, 1000, a), apply(api.OpU, 1, a), apply(api.OpU, 1000, a), apply(api.OpT, 1, a), apply(api.OpT, 1000, a),
		apply(api.OpTwist, -1000000, a), apply(api.OpTwist, 0, a), {Op: api.OpSerre, Args: []api.Expr{a}}, apply(api.OpBracket, 0, a, b), apply(api.OpBracket, 6, a, b),
		wide(60), nested(12), {Op: api.OpDelta, N: []int{}, Args: []api.Expr{}, C: api.Rat{Num: api.Int{Mag: []uint32{5}}}},
	}
}

// invalid are expressions with their errors.
func invalid() map[api.Errno][]api.Expr {
	cycle := []api.Expr{a, b}
	cycle[1] = sum(a, a)
	cycle[1].Args = cycle
	return map[api.Errno][]api.Expr{
		api.ErrLarge: {wide(61), nested(13), sum(nested(12), a), product(wide(59), a), {Op: 99, Args: wide(100).Args}, {Op: api.OpSum, Args: []api.Expr{{}, wide(61)}}, sum(cycle...)},
		api.ErrForm: {
			{}, {Op: -1}, {Op: 19}, {Op: math.MinInt}, {Op: math.MaxInt}, {Op: api.OpNumber, N: []int{1}}, {Op: api.OpNumber, Args: []api.Expr{a}}, {Op: api.OpE}, integers(api.OpE, 4, 4), {Op: api.OpE, N: []int{4}, Args: []api.Expr{a}},
			integers(api.OpG, 1, 2, 3), integers(api.OpG, 1, 2, 3, 4, 5), integers(api.OpNewform, 1, 2, 3), integers(api.OpNewform, 1, 2, 3, 4, 5), integers(api.OpEta, 1), integers(api.OpEta), integers(api.OpEta, make([]int, 42)...), integers(api.OpTheta, 1), integers(api.OpTheta, make([]int, 66)...),
			{Op: api.OpDelta, N: []int{1}}, {Op: api.OpJ, N: []int{1}}, {Op: api.OpDelta, Args: []api.Expr{a}}, {Op: api.OpJ, Args: []api.Expr{a}}, {Op: api.OpName, Name: "a", N: []int{1}}, {Op: api.OpName, Name: "a", Args: []api.Expr{a}},
			sum(), sum(a), product(), product(a), {Op: api.OpSum, N: []int{1}, Args: []api.Expr{a, b}}, {Op: api.OpProduct, N: []int{1}, Args: []api.Expr{a, b}},
			{Op: api.OpPower, N: []int{2}}, {Op: api.OpPower, Args: []api.Expr{a}}, apply(api.OpPower, 2, a, b), {Op: api.OpPower, N: []int{2, 2}, Args: []api.Expr{a}}, apply(api.OpV, 2), apply(api.OpV, 2, a, b), {Op: api.OpV, Args: []api.Expr{a}}, apply(api.OpU, 2), apply(api.OpT, 2), apply(api.OpU, 2, a, b), apply(api.OpT, 2, a, b), apply(api.OpTwist, 2), apply(api.OpTwist, 2, a, b),
			{Op: api.OpSerre}, {Op: api.OpSerre, Args: []api.Expr{a, b}}, apply(api.OpSerre, 1, a), apply(api.OpBracket, 1, a), apply(api.OpBracket, 1, a, b, c), {Op: api.OpBracket, Args: []api.Expr{a, b}},
			name(""), name("E4"), name("V"), name("a b"), {Op: api.OpDelta, Name: "a"}, {Op: api.OpSum, Name: "a", Args: []api.Expr{a, b}}, {Op: api.OpNumber, Name: "a"}, {Op: api.OpDelta, C: rational.Of(1)}, {Op: api.OpName, Name: "a", C: rational.Of(-1)}, {Op: api.OpPower, N: []int{2}, C: rational.Of(1), Args: []api.Expr{a}},
			// The first error is that of the node that comes first.
			sum(name(""), e(-1)), apply(api.OpV, 1, sum(a)), {Op: api.OpPower, N: []int{201}}, integers(api.OpE, -1, -1), product(sum(a, api.Expr{}), power(a, 201)),
		},
		api.ErrRange: {
			e(-1), e(1000001), integers(api.OpG, 0, 0, 0, 1000001), integers(api.OpG, -1000001, 0, 0, 0), integers(api.OpEta, 1000001, 0), integers(api.OpEta, 0, math.MinInt), integers(api.OpTheta, 0, 0, math.MaxInt), integers(api.OpNewform, 0, 0, 1000001, 0),
			power(a, 201), power(a, -201), power(a, math.MinInt), apply(api.OpV, 0, a), apply(api.OpV, 1001, a), apply(api.OpU, 0, a), apply(api.OpU, 1001, a), apply(api.OpT, 0, a), apply(api.OpT, 1001, a), apply(api.OpT, -1, a), apply(api.OpTwist, 1000001, a), apply(api.OpTwist, -1000001, a), apply(api.OpBracket, 7, a, b), apply(api.OpBracket, -1, a, b),
			sum(e(-1), name("")), apply(api.OpV, 0, api.Expr{}), product(power(a, 201), api.Expr{}),
		},
	}
}

func TestCheck(t *testing.T) { // P52.1
	for _, x := range valid() {
		if code := expr.Check(x); code != api.OK {
			t.Errorf("Check(%v): %d", x, code)
		}
		if code := expr.Check(disguise(x)); code != api.OK {
			t.Errorf("Check(%v): %d", disguise(x), code)
		}
	}
	for want, l := range invalid() {
		for i, x := range l {
			if code := expr.Check(x); code != want {
				t.Errorf("Check of expression %d with the error %d: %d", i, want, code)
			}
		}
	}
}

func TestInvalid(t *testing.T) { // P52.2, P52.3, P52.4: the error of Check comes first
	for want, l := range invalid() {
		for _, x := range l {
			s, code := expr.Print(x)
			expectError(t, "Print", s, code, want)
			y, code := expr.Normal(x)
			expectError(t, "Normal", y, code, want)
			names, code := expr.Names(x)
			expectError(t, "Names", names, code, want)
			y, code = expr.Substitute(x, "", api.Expr{})
			expectError(t, "Substitute", y, code, want)
			y, code = expr.Substitute(a, "b", x)
			expectError(t, "Substitute", y, code, want)
			y, code = expr.Substitute(a, "E4", x)
			expectError(t, "Substitute", y, code, api.ErrForm)
		}
	}
}

// ascending are expressions in their order.
func ascending() []api.Expr {
	return []api.Expr{
		{Op: -1}, {}, number(-5), fraction(-1, 2), number(0), fraction(1, 3), fraction(1, 2), number(7), {Op: api.OpNumber, N: []int{-1}}, {Op: api.OpE}, e(2), integers(api.OpE, 2, -9), e(4),
		integers(api.OpG, 1, 2, 3, 4), integers(api.OpG, 1, 2, 4, 0), integers(api.OpG, 2, 0, 0, 0), integers(api.OpEta, 3), integers(api.OpEta, 3, 5), integers(api.OpEta, 3, 5, -1), integers(api.OpEta, 3, 6), integers(api.OpTheta, 1, 2), delta, j,
		name(""), name("A"), name("AA"), name("B"), name("a"), name("a1"), name("aa"), name("b"), {Op: api.OpName, Name: "A", C: rational.Of(1)}, {Op: api.OpName, N: []int{0}}, integers(api.OpNewform, 1, 1, 1, 1),
		sum(), sum(a), sum(a, a), sum(a, b), sum(b), product(number(3), a), product(a, b), power(e(4), 2), power(a, 2), power(e(4), 3), power(a, 3), apply(api.OpV, 2, a), apply(api.OpU, 2, a), apply(api.OpT, 2, a), apply(api.OpTwist, -3, a), {Op: api.OpSerre, Args: []api.Expr{a}}, apply(api.OpBracket, 1, a, b), apply(api.OpBracket, 1, b, a), {Op: 40},
	}
}

func TestLess(t *testing.T) { // P52.1
	l := ascending()
	for i, x := range l {
		for k, y := range l {
			if got := expr.Less(x, y); got != (i < k) {
				t.Errorf("Less(%v, %v) is %v", x, y, got)
			}
			if got := expr.Less(disguise(x), y); got != (i < k) && x.Op != api.OpName && y.Op != api.OpName {
				t.Errorf("Less(%v, %v) is %v", disguise(x), y, got)
			}
		}
	}
	r := rand.New(rand.NewSource(521))
	for range 2000 {
		x, y, z := random(r), random(r), random(r)
		if expr.Less(x, y) && expr.Less(y, x) || expr.Less(x, copyOf(x)) || expr.Less(x, y) && expr.Less(y, z) && !expr.Less(x, z) {
			t.Fatalf("no order: %v, %v, %v", x, y, z)
		}
		if !same(x, y) && !expr.Less(x, y) && !expr.Less(y, x) {
			t.Fatalf("neither %v nor %v is less", x, y)
		}
	}
}

func TestNames(t *testing.T) { // P52.4
	for s, want := range map[string][]string{
		"3": nil, "a": {"a"}, "b + a*B - b^2": {"B", "a", "b"}, "V(2, bracket(1, x, serre(twist(5, y)) + x)) + Delta*j*E4": {"x", "y"}, "f10*f2*f1*f1": {"f1", "f10", "f2"},
	} {
		if l, code := expr.Names(parse(t, s)); code != api.OK || !slices.Equal(l, want) {
			t.Errorf("Names(%s): %v, %d; want %v", s, l, code, want)
		}
	}
}

func TestSubstitute(t *testing.T) { // P52.4, P52.5
	for _, x := range []struct{ e, name, by, want string }{
		{"a", "a", "b + c", "b + c"}, {"a*a^2 + V(2, a)", "a", "b + c", "(b + c)*(b + c)^2 + V(2, b + c)"}, {"a + b", "b", "a + b", "a + (a + b)"}, {"a + b", "c", "3", "a + b"}, {"bracket(1, f, serre(g))", "g", "-E4", "bracket(1, f, serre(-E4))"}, {"a*b", "a", "-2", "-2*b"}, {"b*a", "a", "-2", "b*(-2)"}, {"ab + a", "a", "ab", "ab + ab"},
	} {
		y, code := expr.Substitute(parse(t, x.e), x.name, parse(t, x.by))
		if code != api.OK || expr.Check(y) != api.OK || text(t, y) != x.want {
			t.Errorf("Substitute(%s, %s, %s): %v, %d", x.e, x.name, x.by, y, code)
		}
	}
	r := rand.New(rand.NewSource(524))
	for range 500 {
		x := random(r)
		if y, code := expr.Substitute(disguise(x), "zz", disguise(x)); code != api.OK || !same(x, y) {
			t.Fatalf("Substitute of a name that does not occur in %v: %v, %d", x, y, code)
		}
	}
	for _, x := range []struct {
		e, by api.Expr
		name  string
		want  api.Errno
	}{
		{wide(60), a, "a", api.OK}, {wide(30), sum(b, b), "a", api.ErrLarge}, {wide(20), sum(b, b), "a", api.OK}, {wide(21), sum(b, b), "a", api.ErrLarge}, {nested(6), nested(7), "a", api.OK}, {nested(7), nested(7), "a", api.ErrLarge}, {nested(12), sum(b, b), "b", api.OK},
		{a, wide(60), "a", api.OK}, {a, b, "", api.ErrForm}, {a, b, "Delta", api.ErrForm}, {a, b, "a ", api.ErrForm}, {a, api.Expr{}, "E7", api.ErrForm}, {a, e(-1), "b", api.ErrRange},
	} {
		y, code := expr.Substitute(x.e, x.name, x.by)
		if code != x.want || (code == api.OK) != (y.Op != 0) {
			t.Errorf("Substitute(%v, %s, %v): %v, %d; want %d", x.e, x.name, x.by, y, code, x.want)
		}
	}
}

func TestMemory(t *testing.T) { // R3
	r := rand.New(rand.NewSource(3))
	for range 300 {
		x := random(r)
		kept := copyOf(x)
		y, _ := expr.Substitute(x, "a", x)
		z, _ := expr.Normal(x)
		checkMemory(t, "Substitute, Normal", x, y, z)
		s, _ := expr.Print(x)
		u, _, _ := expr.Parse(s)
		checkMemory(t, "Parse", u)
		if _, code := expr.Names(x); code != api.OK || !same(x, kept) {
			t.Fatalf("the argument %v was changed", kept)
		}
	}
	// A rest, a factor and an expression that is put in occur several times in the results.
	for _, s := range []string{"2*(a^2 + V(2, b)) + 3*a^2", "(a^2*b)^3*(V(2, a^2) + 1)", "a*a + a"} {
		x := parse(t, s)
		y, _ := expr.Substitute(x, "a", power(sum(b, number(2)), 5))
		z, _ := expr.Normal(y)
		checkMemory(t, s, x, y, z)
	}
}
