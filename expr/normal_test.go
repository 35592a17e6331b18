package expr_test

import (
	"hash/fnv"
	"math/big"
	"math/rand"
	"slices"
	"strconv"
	"strings"
	"testing"

	"halfplane/api"
	"halfplane/expr"
	"halfplane/rational"
)

// normal is expr.Normal, which must not fail.
func normal(t *testing.T, x api.Expr) api.Expr {
	t.Helper()
	y, code := expr.Normal(x)
	if code != api.OK || expr.Check(y) != api.OK {
		t.Fatalf("Normal(%s): %v, %d", text(t, x), y, code)
	}
	return y
}

func TestNormal(t *testing.T) { // P52.3
	for s, want := range map[string]string{
		// Sums.
		"a": "a", "3": "3", "6/4": "3/2", "b + a": "a + b", "a + a": "2*a", "a - a": "0", "1/2*a + 1/2*a": "a", "a + (b + (c + a))": "2*a + b + c", "3 + a - 5": "a - 2", "3 + a - 3": "a", "1 + 2": "3", "1 - 1": "0", "a + 0": "a", "a - 2*a": "-a", "2*a*b + b*a": "3*a*b", "a*b - b*a": "0", "5 + E4 + j + Delta + a": "E4 + Delta + j + a + 5", "V(2, a) + a^2 + a*b + (b + c) + 1/2": "b + c + a*b + a^2 + V(2, a) + 1/2",
		"(a + b) + (a - b)": "2*a", "a + b - (a + b)": "0", "a - (a - b)": "b", "0*a + b": "b", "a + 0*b^3": "a", "E6 + E4": "E4 + E6", "G(2, 1, 1, 2) + G(2, 1, 1, 1)": "G(2, 1, 1, 1) + G(2, 1, 1, 2)", "eta(1)[24] + eta(1)[24, 0]": "eta(1)[24] + eta(1)[24, 0]", "B + aa + a1 + a": "B + a + a1 + aa", "a^3 + b^2": "b^2 + a^3",
		// Products.
		"b*a": "a*b", "a*a": "a^2", "Delta*Delta^2": "Delta^3", "a^2*b*a^-1": "a*b", "a*a^-1": "1", "2*3": "6", "1*a": "a", "a*1": "a", "0*a": "0", "a*0": "0", "2*a*3": "6*a", "a*(b*(c*a))": "a^2*b*c", "2*(E4 + f)*3": "6*E4 + 6*f", "a^-1*a^-1": "a^-2", "(a + b)*(b + a)": "(a + b)^2", "2*(a + b)*c": "2*c*(a + b)", "2*(a + b)^2": "2*(a + b)^2", "1*(a + b)": "a + b", "1/2*(2*a + 4*b)": "a + 2*b", "2*(a + 1/2)": "2*a + 1", "2*(a*b + 3)": "2*a*b + 6", "-(a - b)": "-a + b", "(a + b)^2*(a + b)^-1": "a + b", "3*(a + b)^2*(a + b)^-1": "3*a + 3*b", "(a + b)*(a + b)^-1": "1",
		"2*(3*(a + b) + c)": "6*a + 6*b + 2*c", "0*(a + b)": "0", "(a - a)*b": "0", "E6*E4": "E4*E6", "E4^3*E6^2*E4": "E4^4*E6^2", "V(2, a)*V(2, a)": "V(2, a)^2", "2*a*(1/2)*b": "a*b", "(a*b)*(b*c)": "a*b^2*c",
		// Powers.
		"a^0": "1", "a^1": "a", "0^0": "1", "0^3": "0", "(a^2)^3": "a^6", "(a^2)^-3": "a^-6", "(a^-1)^-1": "a", "(a*b)^2": "a^2*b^2", "(2*a)^3": "8*a^3", "(2*a)^-3": "1/8*a^-3", "2^10": "1024", "(2/3)^-2": "9/4", "(-1)^7": "-1", "(a + a)^2": "4*a^2", "(a + b)^2": "(a + b)^2", "(b + a)^-1": "(a + b)^-1", "((a + b)^-1)^-1": "a + b", "(2*(a + b)^-1)^-1": "1/2*a + 1/2*b", "(a - a)^2": "0", "(a^2*b^-1)^-2": "a^-4*b^2", "(a*(b + c))^2": "a^2*(b + c)^2", "1^200": "1", "(a^0)^5": "1", "(3*a^0)^2": "9",
		// 0 to a negative power remains.
		"0^-1": "(0)^-1", "(0^-1)^-1": "0", "(0^-1)^2": "(0)^-2", "0^-1*0^-2": "(0)^-3", "0*0^-1": "0", "(0^-1)^0": "1", "(a - a)^-2": "(0)^-2", "2*0^-1 + 0^-1": "3*(0)^-1", "(0^-1*a)^-1": "0", "(0^-1*a)^2": "(0)^-2*a^2", "a*0^-1": "(0)^-1*a",
		// Operators.
		"V(1, a)": "a", "U(1, b + a)": "a + b", "T(1, a)": "a", "twist(1, a*a)": "a^2", "V(2, V(3, a))": "V(6, a)", "V(2, V(3, V(5, a)))": "V(30, a)", "V(2, U(2, a))": "V(2, U(2, a))", "U(2, U(3, a))": "U(2, U(3, a))", "T(2, T(3, a))": "T(2, T(3, a))", "V(40, V(25, a))": "V(1000, a)", "V(40, V(26, a))": "V(40, V(26, a))", "V(2, V(500, V(3, a)))": "V(1000, V(3, a))", "V(500, V(2, V(500, a)))": "V(500, V(1000, a))", "V(1, V(2, V(1, a)))": "V(2, a)", "V(2, V(3, a) + 0)": "V(6, a)", "twist(-4, twist(-4, a))": "twist(-4, twist(-4, a))", "twist(0, a)": "twist(0, a)", "serre(b + a)": "serre(a + b)", "bracket(0, b*a, a + a)": "bracket(0, a*b, 2*a)", "bracket(1, b, a)": "bracket(1, b, a)", "V(2, 3)": "V(2, 3)", "serre(0)": "serre(0)",
		"j": "j", "E0": "E0", "newform(11, 2, 1, 0)*eta(11)[2, 2]": "eta(11)[2, 2]*newform(11, 2, 1, 0)", "theta(2)[2, 0, 0, 2]^2 - 8*G(2, 1, 1, 4)": "-8*G(2, 1, 1, 4) + theta(2)[2, 0, 0, 2]^2",
		// The greatest exponents.
		"Delta^100*Delta^100": "Delta^200", "(a^100)^-2": "a^-200", "Delta^150*Delta^100*Delta^-100": "Delta^150", "Delta^200*Delta^-200": "1", "(a^20*b)^10": "a^200*b^10", "0^200": "0", "0*a^150*b^150": "0",
	} {
		x := parse(t, s)
		if got := text(t, normal(t, x)); got != want {
			t.Errorf("Normal(%s): %s, want %s", s, got, want)
		}
		if got := text(t, normal(t, disguise(x))); got != want {
			t.Errorf("Normal(%s) in other numbers: %s, want %s", s, got, want)
		}
	}
}

// multiples returns the text of n times a sum of so many names.
func multiples(n string, names int) string {
	var l []string
	for i := range names {
		l = append(l, "a"+strconv.Itoa(i))
	}
	return n + "*(" + strings.Join(l, "+") + ")"
}

func TestLargeForms(t *testing.T) { // P52.3
	for s, want := range map[string]api.Errno{
		"Delta^150*Delta^100": api.ErrLarge, "0*Delta^150*Delta^100": api.ErrLarge, "(0^-1*Delta^100)^-3": api.ErrLarge, "(a^100)^3": api.ErrLarge, "(a^-100)^3": api.ErrLarge, "(a^100)^0": api.OK, "((a^100)^3)^0": api.ErrLarge, "(a^150*a^100)*a^-200": api.ErrLarge, "a^150*a^100*a^-200": api.OK, "0*(a^150*a^100)": api.ErrLarge, "V(2, a^150*a^100)": api.ErrLarge, "b - b*(a^200*a)": api.ErrLarge, "a^-200*a^-1": api.ErrLarge, "(a^2*b^200)^1": api.OK, "(a^2*b^101)^2": api.ErrLarge, "(0^-100)^3": api.ErrLarge, "(0^-100)^-3": api.ErrLarge, "0^-150*0^-51": api.ErrLarge, "0^-150*0^-50": api.OK, "0*0^-150*0^-51": api.ErrLarge, "((a^200)^-1)^-1": api.OK, "(((a + b)^20)^10)^2": api.ErrLarge, "a^101*b*a^100": api.ErrLarge, "(a - a)*b^200*b": api.ErrLarge, "V(2, (a^200)^2)*0": api.ErrLarge,
		// The nodes of the normal form count.
		multiples("2", 19): api.OK, multiples("2", 20): api.ErrLarge, multiples("1", 57): api.OK, multiples("0", 57): api.OK, multiples("2", 30) + "*0": api.OK, "0*(" + multiples("2", 50) + ")": api.OK, multiples("2", 20) + "^2": api.OK, multiples("1/2", 20) + "*2": api.OK,
	} {
		x := parse(t, s)
		y, code := expr.Normal(x)
		if code != want || (code == api.OK) != (y.Op != 0) {
			t.Errorf("Normal(%s): %v, %d; want %d", s, y, code, want)
		}
		if code != api.OK {
			expectError(t, s, y, code, api.ErrLarge)
		}
	}
	// Powers of numbers are those of layer 2.
	for _, bits := range []int{5242, 5243} {
		x, code := rational.Pow(rational.Of(2), bits-1)
		if code != api.OK {
			t.Fatal(code)
		}
		_, want := rational.Pow(x, 200)
		y, code := expr.Normal(power(api.Expr{Op: api.OpNumber, C: x}, 200))
		if code != want || (want == api.OK) != (y.Op == api.OpNumber) {
			t.Errorf("the power of a number of %d bits: %d, want %d", bits, code, want)
		}
		y, code = expr.Normal(product(number(0), power(product(api.Expr{Op: api.OpNumber, C: x}, a), -200)))
		if code != want || (want == api.OK) != (y.Op == api.OpNumber) {
			t.Errorf("0 times the power of a number of %d bits: %d, want %d", bits, code, want)
		}
	}
	// The levels of the normal form.
	if x := nested(12); !same(normal(t, x), x) {
		t.Errorf("Normal(%v): %v", x, normal(t, x))
	}
	x := nested(10)
	x = product(number(2), sum(x, b))
	if y := normal(t, x); text(t, y) != "2*b + 2*"+text(t, nested(10)) {
		t.Errorf("Normal(%s): %s", text(t, x), text(t, y))
	}
}

// isNormal reports whether an expression has the shape of a normal form.
func isNormal(x api.Expr) bool {
	for _, y := range x.Args {
		if !isNormal(y) {
			return false
		}
	}
	switch x.Op {
	case api.OpSum:
		return isNormalSum(x.Args)
	case api.OpProduct:
		return isNormalProduct(x.Args)
	case api.OpPower:
		base := x.Args[0]
		isZero := base.Op == api.OpNumber && rational.Sign(base.C) == 0
		return x.N[0] != 0 && x.N[0] != 1 && base.Op != api.OpPower && base.Op != api.OpProduct && (base.Op != api.OpNumber || isZero && x.N[0] < 0)
	case api.OpU, api.OpT, api.OpTwist:
		return x.N[0] != 1
	case api.OpV:
		return x.N[0] != 1 && (x.Args[0].Op != api.OpV || x.N[0]*x.Args[0].N[0] > api.MaxPrec)
	}
	return true
}

// isNormalSum reports whether the arguments are those of a sum in normal form.
func isNormalSum(args []api.Expr) bool {
	var rests []api.Expr
	for i, y := range args {
		switch {
		case y.Op == api.OpSum:
			return false
		case y.Op == api.OpNumber:
			if i != len(args)-1 || rational.Sign(y.C) == 0 {
				return false
			}
		case y.Op == api.OpProduct && y.Args[0].Op == api.OpNumber && len(y.Args) == 2:
			rests = append(rests, y.Args[1])
		case y.Op == api.OpProduct && y.Args[0].Op == api.OpNumber:
			rests = append(rests, product(y.Args[1:]...))
		default:
			rests = append(rests, y)
		}
	}
	return areAscending(rests)
}

// isNormalProduct reports whether the arguments are those of a product in normal form.
func isNormalProduct(args []api.Expr) bool {
	if c := args[0]; c.Op == api.OpNumber {
		if rational.Sign(c.C) == 0 || rational.Cmp(c.C, rational.Of(1)) == 0 || len(args) == 2 && args[1].Op == api.OpSum {
			return false
		}
		args = args[1:]
	}
	var bases []api.Expr
	for _, y := range args {
		if y.Op == api.OpNumber || y.Op == api.OpProduct {
			return false
		}
		if y.Op == api.OpPower {
			y = y.Args[0]
		}
		bases = append(bases, y)
	}
	return areAscending(bases)
}

// areAscending reports whether expressions stand in strictly ascending order.
func areAscending(l []api.Expr) bool {
	for i := 1; i < len(l); i++ {
		if !expr.Less(l[i-1], l[i]) {
			return false
		}
	}
	return true
}

// shuffled returns an expression with the arguments of its sums and products in another
// order, and with some of those of its sums in brackets. (Brackets in products may matter:
// 2*(a + b)*c is a normal form, and (2*(a + b))*c is not.)
func shuffled(r *rand.Rand, x api.Expr) api.Expr {
	y := copyOf(x)
	for i, z := range y.Args {
		y.Args[i] = shuffled(r, z)
	}
	if x.Op != api.OpSum && x.Op != api.OpProduct {
		return y
	}
	r.Shuffle(len(y.Args), func(i, k int) { y.Args[i], y.Args[k] = y.Args[k], y.Args[i] })
	if x.Op == api.OpSum && len(y.Args) > 2 && r.Intn(2) == 0 {
		n := 2 + r.Intn(len(y.Args)-2)
		first := sum(slices.Clone(y.Args[:n])...)
		y.Args = append([]api.Expr{first}, y.Args[n:]...)
	}
	return y
}

func TestNormalForms(t *testing.T) { // P52.3, P52.5
	r := rand.New(rand.NewSource(523))
	formed, valued := 0, 0
	for range 20000 {
		x := random(r)
		y, code := expr.Normal(disguise(x))
		if code != api.OK {
			continue
		}
		formed++
		if expr.Check(y) != api.OK || !isNormal(y) {
			t.Fatalf("Normal(%s) is %s", text(t, x), text(t, y))
		}
		if z := normal(t, y); !same(y, z) {
			t.Fatalf("Normal(%s) is %s, and the normal form of that is %s", text(t, x), text(t, y), text(t, z))
		}
		if z, code := expr.Normal(shuffled(r, x)); code == api.OK && !same(y, z) {
			t.Fatalf("Normal(%s) is %s, and %s in another order", text(t, x), text(t, y), text(t, z))
		}
		v, ok := valueOf(x)
		w, okay := valueOf(y)
		if ok && (!okay || v.Cmp(w) != 0) {
			t.Fatalf("%s has the value %v, and its normal form %s has %v", text(t, x), v, text(t, y), w)
		}
		if ok {
			valued++
		}
	}
	if formed < 15000 || valued < 10000 {
		t.Error(formed, valued)
	}
}

// modulus is the prime modulo which expressions are computed.
var modulus = big.NewInt(1<<61 - 1)

// valueOf returns the value of an expression if each of its atoms stands for some residue,
// V for a power, and each other operator for some function; false if a number is divided by 0.
func valueOf(x api.Expr) (*big.Int, bool) {
	var args []*big.Int
	for _, y := range x.Args {
		v, ok := valueOf(y)
		if !ok {
			return nil, false
		}
		args = append(args, v)
	}
	switch x.Op {
	case api.OpNumber:
		num, _ := new(big.Int).SetString(rational.Format(rational.Whole(x.C.Num)), 10)
		den, _ := new(big.Int).SetString(rational.Format(rational.Whole(x.C.Den)), 10)
		return num.Mul(num, den.ModInverse(den, modulus)).Mod(num, modulus), true
	case api.OpSum:
		v := new(big.Int)
		for _, w := range args {
			v.Add(v, w).Mod(v, modulus)
		}
		return v, true
	case api.OpProduct:
		v := big.NewInt(1)
		for _, w := range args {
			v.Mul(v, w).Mod(v, modulus)
		}
		return v, true
	case api.OpPower:
		return powerOf(args[0], x.N[0])
	case api.OpV:
		return powerOf(args[0], x.N[0])
	case api.OpU, api.OpT, api.OpTwist:
		if x.N[0] == 1 {
			return args[0], true
		}
	}
	return hash(x, args), true
}

// powerOf returns a power modulo the prime.
func powerOf(v *big.Int, n int) (*big.Int, bool) {
	if n < 0 && v.Sign() == 0 {
		return nil, false
	}
	if n < 0 {
		v, n = new(big.Int).ModInverse(v, modulus), -n
	}
	return new(big.Int).Exp(v, big.NewInt(int64(n)), modulus), true
}

// hash returns a residue that depends on an operation and the values of its arguments.
func hash(x api.Expr, args []*big.Int) *big.Int {
	h := fnv.New64a()
	h.Write([]byte(x.Name + ":" + strconv.Itoa(x.Op)))
	for _, n := range x.N {
		h.Write([]byte("," + strconv.Itoa(n)))
	}
	for _, v := range args {
		h.Write([]byte(";" + v.String()))
	}
	v := new(big.Int).SetUint64(h.Sum64())
	return v.Mod(v, modulus)
}

func TestExamples(t *testing.T) { // P52.2, P52.3
	x := parse(t, "E4^3 - E6^2")
	if !same(x, sum(power(e(4), 3), product(number(-1), power(e(6), 2)))) || text(t, x) != "E4^3 - E6^2" {
		t.Errorf("E4^3 - E6^2: %v", x)
	}
	// The order looks at exponents before bases, so that the normal form begins with E6.
	if s := text(t, normal(t, x)); s != "-E6^2 + E4^3" {
		t.Errorf("the normal form of E4^3 - E6^2: %s", s)
	}
	x = parse(t, "2*(E4 + f)*3")
	if !same(x, product(number(2), sum(e(4), name("f")), number(3))) || !same(normal(t, x), sum(product(number(6), e(4)), product(number(6), name("f")))) {
		t.Errorf("2*(E4 + f)*3: %v", x)
	}
	for s, want := range map[string]string{"Delta*Delta^2": "Delta^3", "a - a": "0", "1/2*a + 1/2*a": "a"} {
		if got := text(t, normal(t, parse(t, s))); got != want {
			t.Errorf("Normal(%s): %s", s, got)
		}
	}
}
