package identity_test

import (
	"slices"
	"testing"

	"halfplane/api"
	"halfplane/bigint"
	"halfplane/expand"
	"halfplane/expr"
	"halfplane/identity"
	"halfplane/rational"
	"halfplane/series"
)

// parse returns the expression of a text.
func parse(t *testing.T, s string) api.Expr {
	t.Helper()
	e, _, code := expr.Parse(s)
	if code != api.OK {
		t.Fatalf("Parse(%q): %d", s, code)
	}
	return e
}

// list returns the expressions of texts.
func list(t *testing.T, l ...string) []api.Expr {
	t.Helper()
	var all []api.Expr
	for _, s := range l {
		all = append(all, parse(t, s))
	}
	return all
}

// define returns definitions: names and texts in turn.
func define(t *testing.T, l ...string) []api.Binding {
	t.Helper()
	var defs []api.Binding
	for i := 0; i < len(l); i += 2 {
		defs = append(defs, api.Binding{Name: l[i], Expr: parse(t, l[i+1])})
	}
	return defs
}

// of returns a series with integral coefficients.
func of(from int, coefficients ...int) api.Series {
	a := api.Series{From: from}
	for _, c := range coefficients {
		a.Coef = append(a.Coef, rational.Of(c))
	}
	return a
}

// same reports whether two series have the same fields.
func same(a, b api.Series) bool {
	return a.From == b.From && slices.EqualFunc(a.Coef, b.Coef, sameRat)
}

// sameRat reports whether fractions have the same fields.
func sameRat(x, y api.Rat) bool {
	return x.Num.Neg == y.Num.Neg && slices.Equal(x.Num.Mag, y.Num.Mag) && x.Den.Neg == y.Den.Neg && slices.Equal(x.Den.Mag, y.Den.Mag)
}

// sameExpr reports whether expressions have the same fields.
func sameExpr(x, y api.Expr) bool {
	return x.Op == y.Op && slices.Equal(x.N, y.N) && sameRat(x.C, y.C) && x.Name == y.Name && slices.EqualFunc(x.Args, y.Args, sameExpr)
}

// sameBinding reports whether definitions have the same fields.
func sameBinding(x, y api.Binding) bool {
	return x.Name == y.Name && sameExpr(x.Expr, y.Expr)
}

// sameCertificate reports whether certificates have the same fields.
func sameCertificate(x, y api.Certificate) bool {
	return sameExpr(x.Left, y.Left) && sameExpr(x.Right, y.Right) && slices.EqualFunc(x.Defs, y.Defs, sameBinding) && x.Kind == y.Kind && x.Bound == y.Bound && same(x.Coef, y.Coef)
}

// disguise returns an expression with the same value whose numbers are written in another way.
func disguise(x api.Expr) api.Expr {
	y := api.Expr{Op: x.Op, N: slices.Clone(x.N), Name: x.Name, C: api.Rat{Num: api.Int{Mag: []uint32{7}}, Den: api.Int{Neg: true, Mag: []uint32{0}}}}
	if rational.Sign(x.C) != 0 {
		y.C = api.Rat{Num: sixfold(x.C.Num), Den: sixfold(x.C.Den)}
	}
	for _, a := range x.Args {
		y.Args = append(y.Args, disguise(a))
	}
	return y
}

// sixfold returns -6 times an integer, with a digit 0 in front.
func sixfold(x api.Int) api.Int {
	y := bigint.Mul(bigint.Of(-6), x)
	y.Mag = append(y.Mag, 0)
	return y
}

// disguiseAll returns definitions whose numbers are written in another way.
func disguiseAll(defs []api.Binding) []api.Binding {
	var l []api.Binding
	for _, d := range defs {
		l = append(l, api.Binding{Name: d.Name, Expr: disguise(d.Expr)})
	}
	return l
}

// prove is identity.Prove, which must not fail.
func prove(t *testing.T, l, r string, defs []api.Binding) api.Certificate {
	t.Helper()
	c, n, code := identity.Prove(parse(t, l), parse(t, r), defs)
	if code != api.OK || n != 0 {
		t.Fatalf("Prove(%s, %s): %d, %d", l, r, n, code)
	}
	return c
}

// combination returns the sum of x_i l[i] to a precision.
func combination(t *testing.T, x []api.Rat, l []api.Expr, defs []api.Binding, prec int) api.Series {
	t.Helper()
	sum, _ := series.Monomial(rational.Of(0), prec, prec)
	for i, e := range l {
		a, code := expand.Expand(e, defs, prec)
		if code != api.OK {
			t.Fatalf("Expand(%v, %d): %d", e, prec, code)
		}
		a, _ = series.Scale(x[i], a)
		sum, _ = series.Add(sum, a)
	}
	return sum
}

// slicesOf returns the slices of an expression, by their first elements.
func slicesOf(x api.Expr) []any {
	l := append(slicesOfRat(x.C), first(x.N)...)
	l = append(l, first(x.Args)...)
	for _, y := range x.Args {
		l = append(l, slicesOf(y)...)
	}
	return l
}

// slicesOfRat returns the slices of a fraction.
func slicesOfRat(x api.Rat) []any {
	return append(first(x.Num.Mag), first(x.Den.Mag)...)
}

// first returns the address of the first element of a list that is not empty.
func first[E any](l []E) []any {
	if len(l) == 0 {
		return nil
	}
	return []any{&l[0]}
}

// slicesOfAll returns the slices of a certificate.
func slicesOfAll(c api.Certificate) []any {
	l := append(slicesOf(c.Left), slicesOf(c.Right)...)
	l = append(l, first(c.Defs)...)
	for _, d := range c.Defs {
		l = append(l, slicesOf(d.Expr)...)
	}
	l = append(l, first(c.Coef.Coef)...)
	for _, x := range c.Coef.Coef {
		l = append(l, slicesOfRat(x)...)
	}
	return l
}

// spoil overwrites the memory of an expression.
func spoil(e api.Expr) {
	for i := range e.N {
		e.N[i] = 77
	}
	for _, mag := range [][]uint32{e.C.Num.Mag, e.C.Den.Mag} {
		for i := range mag {
			mag[i] = 77
		}
	}
	for i, a := range e.Args {
		spoil(a)
		e.Args[i] = api.Expr{}
	}
}
