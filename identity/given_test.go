package identity_test

import (
	"slices"
	"testing"

	"halfplane/api"
	"halfplane/identity"
)

// written returns a number with the fields that are given.
func written(num, den api.Int) api.Expr {
	return api.Expr{Op: api.OpNumber, C: api.Rat{Num: num, Den: den}}
}

// digits returns an integer that is not negative by its digits.
func digits(mag ...uint32) api.Int {
	return api.Int{Mag: mag}
}

// minus returns an integer with the sign of negative ones by its digits.
func minus(mag ...uint32) api.Int {
	return api.Int{Neg: true, Mag: mag}
}

// zeros and halves are the numbers 0 and 1/2, each in several ways.
func zeros() []api.Expr {
	return []api.Expr{
		written(digits(), digits(1)), written(digits(), digits()), written(minus(), minus()), written(digits(0, 0), digits(0)), written(digits(), digits(5)), written(minus(0), digits(6, 0)), written(digits(7), digits()), written(minus(0, 8, 0), minus(0, 0)), written(minus(), digits(1)),
	}
}

func halves() []api.Expr {
	return []api.Expr{
		written(digits(1), digits(2)), written(digits(2), digits(4)), written(digits(1, 0), digits(2, 0, 0)), written(minus(1), minus(2)), written(minus(3, 0), minus(6)), written(digits(0, 1), digits(0, 2)), written(digits(1<<31), digits(0, 1)),
	}
}

func TestNumbersAsGiven(t *testing.T) { // P55.1, P55.2
	for _, build := range []func() []api.Expr{zeros, halves} {
		for i := range build() {
			for k := range build() {
				l, r, unused := build()[i], build()[k], build()[k]
				want := []api.Expr{build()[i], build()[k]}
				c, n, code := identity.Prove(l, r, []api.Binding{{Name: "f", Expr: l}, {Name: "g", Expr: unused}})
				if code != api.OK || n != 0 {
					t.Errorf("%v = %v: %d, %d", want[0], want[1], n, code)
					continue
				}
				if !sameExpr(c.Left, want[0]) || !sameExpr(c.Right, want[1]) || len(c.Defs) != 2 || !sameBinding(c.Defs[0], api.Binding{Name: "f", Expr: want[0]}) || !sameBinding(c.Defs[1], api.Binding{Name: "g", Expr: want[1]}) {
					t.Errorf("%v = %v: %v", want[0], want[1], c)
				}
				if code := identity.Check(c); code != api.OK {
					t.Errorf("Check of %v = %v: %d", want[0], want[1], code)
				}
			}
		}
	}
}

func TestIdentitiesAsGiven(t *testing.T) { // P55.1, P55.2, P55.3
	texts := []string{"f", "E4*E6", "g", "Delta", "unused", "f + 5/10*f - V(2, 1/3*f)"}
	for _, x := range identities() {
		want := prove(t, x[0], x[1], define(t, texts...))
		want.Left, want.Right, want.Defs = disguise(want.Left), disguise(want.Right), disguiseAll(want.Defs)
		l, r, defs := disguise(parse(t, x[0])), disguise(parse(t, x[1])), disguiseAll(define(t, texts...))
		// Kind, Bound and Coef do not depend on how the numbers are written.
		c, n, code := identity.Prove(l, r, defs)
		if code != api.OK || n != 0 || !sameCertificate(c, want) {
			t.Errorf("%s = %s: %v, %d, %d, want %v", x[0], x[1], c, n, code, want)
		}
		if code := identity.Check(c); code != api.OK {
			t.Errorf("Check of %s = %s: %d", x[0], x[1], code)
		}
		prec := c.Bound + 10
		a, code := identity.Extend(c, prec)
		b, more := identity.Extend(prove(t, x[0], x[1], define(t, texts...)), prec)
		if code != api.OK || more != api.OK || !same(a, b) {
			t.Errorf("Extend of %s = %s: %v, %d and %v, %d", x[0], x[1], a, code, b, more)
		}
	}
}

func TestShared(t *testing.T) { // P55.1, R3: arguments that share memory with one another
	build := func() (api.Expr, []api.Binding) {
		mag := []uint32{4, 0}
		half := written(digits(mag[:1]...), digits(8))
		other := written(digits(mag...), digits(mag...))
		l := api.Expr{Op: api.OpSum, Args: []api.Expr{half, other, half}}
		return l, []api.Binding{{Name: "f", Expr: l}, {Name: "g", Expr: half}, {Name: "h", Expr: l}}
	}
	l, defs := build()
	c, _, code := identity.Prove(l, l, defs)
	if code != api.OK {
		t.Fatalf("Prove: %d", code)
	}
	seen := map[any]bool{}
	for _, p := range slicesOfAll(api.Certificate{Left: l, Right: l, Defs: defs}) {
		seen[p] = true
	}
	for _, p := range slicesOfAll(c) {
		if seen[p] {
			t.Fatalf("two slices share memory: %v", c)
		}
		seen[p] = true
	}
	spoil(l)
	want, bound := build()
	if !sameExpr(c.Left, want) || !sameExpr(c.Right, want) || !slices.EqualFunc(c.Defs, bound, sameBinding) || identity.Check(c) != api.OK {
		t.Errorf("Prove: %v, want %v and %v", c, want, bound)
	}
}
