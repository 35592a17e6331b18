package expr_test

import (
	"math/rand"
	"reflect"
	"slices"
	"strings"
	"testing"

	"halfplane/api"
	"halfplane/expr"
	"halfplane/rational"
)

// fraction returns the number n/d.
func fraction(n, d int) api.Expr {
	x, _ := rational.Quo(rational.Of(n), rational.Of(d))
	return api.Expr{Op: api.OpNumber, C: x}
}

// number returns the number n.
func number(n int) api.Expr {
	return fraction(n, 1)
}

// name returns a name.
func name(s string) api.Expr {
	return api.Expr{Op: api.OpName, Name: s}
}

// e returns the Eisenstein series of weight k.
func e(k int) api.Expr {
	return api.Expr{Op: api.OpE, N: []int{k}}
}

// sum returns a sum.
func sum(args ...api.Expr) api.Expr {
	return api.Expr{Op: api.OpSum, Args: args}
}

// product returns a product.
func product(args ...api.Expr) api.Expr {
	return api.Expr{Op: api.OpProduct, Args: args}
}

// power returns a power.
func power(a api.Expr, n int) api.Expr {
	return api.Expr{Op: api.OpPower, N: []int{n}, Args: []api.Expr{a}}
}

// apply returns an operation with one integer.
func apply(op, n int, args ...api.Expr) api.Expr {
	return api.Expr{Op: op, N: []int{n}, Args: args}
}

// integers returns an operation with integers.
func integers(op int, n ...int) api.Expr {
	return api.Expr{Op: op, N: n}
}

var (
	a, b, c = name("a"), name("b"), name("c")
	delta   = api.Expr{Op: api.OpDelta}
	j       = api.Expr{Op: api.OpJ}
)

// nested returns an expression with so many levels.
func nested(levels int) api.Expr {
	x := a
	for range levels - 1 {
		x = api.Expr{Op: api.OpSerre, Args: []api.Expr{x}}
	}
	return x
}

// wide returns a sum with so many nodes.
func wide(nodes int) api.Expr {
	var l []api.Expr
	for range nodes - 1 {
		l = append(l, a)
	}
	return sum(l...)
}

// same reports whether normalized expressions have the same fields.
func same(x, y api.Expr) bool {
	return x.Op == y.Op && slices.Equal(x.N, y.N) && sameRat(x.C, y.C) && x.Name == y.Name && slices.EqualFunc(x.Args, y.Args, same)
}

// sameRat reports whether fractions have the same fields.
func sameRat(x, y api.Rat) bool {
	return x.Num.Neg == y.Num.Neg && slices.Equal(x.Num.Mag, y.Num.Mag) && x.Den.Neg == y.Den.Neg && slices.Equal(x.Den.Mag, y.Den.Mag)
}

// disguise returns an expression whose numbers are not normalized.
func disguise(x api.Expr) api.Expr {
	y := x
	y.N = slices.Clone(x.N)
	y.Args = nil
	for _, z := range x.Args {
		y.Args = append(y.Args, disguise(z))
	}
	six := api.Int{Neg: true, Mag: []uint32{6, 0}}
	if x.Op == api.OpNumber {
		num, den := rational.Mul(rational.Whole(x.C.Num), rational.Whole(six)), rational.Mul(rational.Whole(x.C.Den), rational.Whole(six))
		y.C = api.Rat{Num: num.Num, Den: den.Num}
		if rational.Sign(x.C) == 0 {
			y.C = api.Rat{Num: six}
		}
	} else {
		y.C = api.Rat{Num: api.Int{Neg: true, Mag: []uint32{0, 0}}, Den: six}
	}
	return y
}

// random returns a valid expression.
func random(r *rand.Rand) api.Expr {
	for {
		if x := randomLevel(r, 2+r.Intn(4)); expr.Check(x) == api.OK {
			return x
		}
	}
}

// randomLevel returns an expression with at most so many levels.
func randomLevel(r *rand.Rand, levels int) api.Expr {
	if levels == 1 {
		return randomAtom(r)
	}
	var args []api.Expr
	for range 2 + r.Intn(3) {
		args = append(args, randomLevel(r, 1+r.Intn(levels-1)))
	}
	switch r.Intn(12) {
	case 0, 1, 2:
		return sum(args...)
	case 3, 4, 5:
		return product(args...)
	case 6, 7:
		return power(args[0], r.Intn(7)-3)
	case 8:
		return apply(api.OpV+r.Intn(3), 1+r.Intn(3), args[0])
	case 9:
		return apply(api.OpTwist, []int{1, -3, -4, 5}[r.Intn(4)], args[0])
	case 10:
		return api.Expr{Op: api.OpSerre, Args: args[:1]}
	}
	return apply(api.OpBracket, r.Intn(7), args[:2]...)
}

// randomAtom returns an expression without arguments.
func randomAtom(r *rand.Rand) api.Expr {
	switch r.Intn(14) {
	case 0, 1, 2:
		return fraction(r.Intn(9)-4, 1+r.Intn(3))
	case 3:
		return e(2 * r.Intn(4))
	case 4:
		return integers(api.OpG, 3, 1, -4, r.Intn(2))
	case 5:
		return integers(api.OpEta, 11, 2-r.Intn(2), 2)
	case 6:
		return integers(api.OpTheta, 2, 2, 1, 1, 2)
	case 7:
		return delta
	case 8:
		return j
	case 9:
		return integers(api.OpNewform, 11, 2, 1, r.Intn(2))
	}
	return name([]string{"a", "b", "c", "f1", "E", "Gx"}[r.Intn(6)])
}

// parse is expr.Parse, which must not fail.
func parse(t *testing.T, s string) api.Expr {
	t.Helper()
	x, offset, code := expr.Parse(s)
	if code != api.OK || offset != 0 || expr.Check(x) != api.OK {
		t.Fatalf("Parse(%q): %v, %d, %d", s, x, offset, code)
	}
	return x
}

// text is expr.Print, which must not fail.
func text(t *testing.T, x api.Expr) string {
	t.Helper()
	s, code := expr.Print(x)
	if code != api.OK {
		t.Fatalf("Print(%v): %d", x, code)
	}
	return s
}

// expectError checks that a result is an error with a zero value beside it.
func expectError(t *testing.T, name string, got any, code, want api.Errno) {
	t.Helper()
	if code != want || !reflect.ValueOf(got).IsZero() {
		t.Errorf("%s: %v, %d; want error %d", name, got, code, want)
	}
}

// spoil overwrites the memory of an expression.
func spoil(x api.Expr) {
	for i := range x.N[:cap(x.N)] {
		x.N[:cap(x.N)][i] = 77
	}
	for _, mag := range [][]uint32{x.C.Num.Mag, x.C.Den.Mag} {
		for i := range mag[:cap(mag)] {
			mag[:cap(mag)][i] = 77
		}
	}
	for i, y := range x.Args {
		spoil(y)
		x.Args[i] = api.Expr{Op: 77}
	}
}

// copyOf returns a copy of an expression that shares no memory with it.
func copyOf(x api.Expr) api.Expr {
	y := api.Expr{Op: x.Op, N: slices.Clone(x.N), Name: strings.Clone(x.Name)}
	y.C.Num = api.Int{Neg: x.C.Num.Neg, Mag: slices.Clone(x.C.Num.Mag)}
	y.C.Den = api.Int{Neg: x.C.Den.Neg, Mag: slices.Clone(x.C.Den.Mag)}
	for _, z := range x.Args {
		y.Args = append(y.Args, copyOf(z))
	}
	return y
}

// slicesOf returns the slices of an expression, by their first elements.
func slicesOf(x api.Expr) []any {
	var l []any
	if len(x.N) > 0 {
		l = append(l, &x.N[0])
	}
	for _, mag := range [][]uint32{x.C.Num.Mag, x.C.Den.Mag} {
		if len(mag) > 0 {
			l = append(l, &mag[0])
		}
	}
	if len(x.Args) > 0 {
		l = append(l, &x.Args[0])
	}
	for _, y := range x.Args {
		l = append(l, slicesOf(y)...)
	}
	return l
}

// checkMemory checks that no two slices of expressions share memory.
func checkMemory(t *testing.T, what string, l ...api.Expr) {
	t.Helper()
	seen := map[any]bool{}
	for _, x := range l {
		for _, p := range slicesOf(x) {
			if seen[p] {
				t.Fatalf("%s: two slices share memory: %v", what, l)
			}
			seen[p] = true
		}
	}
}
