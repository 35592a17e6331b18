package expand_test

import (
	"math/rand"
	"slices"
	"testing"

	"halfplane/api"
	"halfplane/expand"
	"halfplane/expr"
	"halfplane/rational"
	"halfplane/series"
)

// parse returns the expression of a text.
func parse(t *testing.T, s string) api.Expr {
	t.Helper()
	e, _, code := expr.Parse(s)
	if code != api.OK {
		t.Fatalf("Parse(%q): %d", s, code)
	}
	return e
}

// define returns definitions: names and texts in turn.
func define(t *testing.T, l ...string) []api.Binding {
	t.Helper()
	var defs []api.Binding
	for i := 0; i < len(l); i += 2 {
		defs = append(defs, api.Binding{Name: l[i], Expr: parse(t, l[i+1])})
	}
	return defs
}

// of returns a series with integral coefficients.
func of(from int, coefficients ...int) api.Series {
	a := api.Series{From: from}
	for _, c := range coefficients {
		a.Coef = append(a.Coef, rational.Of(c))
	}
	return a
}

// same reports whether two series have the same fields.
func same(a, b api.Series) bool {
	return a.From == b.From && slices.EqualFunc(a.Coef, b.Coef, func(x, y api.Rat) bool {
		return x.Num.Neg == y.Num.Neg && slices.Equal(x.Num.Mag, y.Num.Mag) && x.Den.Neg == y.Den.Neg && slices.Equal(x.Den.Mag, y.Den.Mag)
	})
}

// expansion is expand.Expand, which must not fail.
func expansion(t *testing.T, e api.Expr, defs []api.Binding, prec int) api.Series {
	t.Helper()
	a, code := expand.Expand(e, defs, prec)
	if code != api.OK {
		t.Fatalf("Expand(%v, %d): %d", e, prec, code)
	}
	if a.From+len(a.Coef) != prec {
		t.Fatalf("Expand(%v, %d) has the precision %d", e, prec, a.From+len(a.Coef))
	}
	if n, _ := series.Normal(a); !same(a, n) {
		t.Fatalf("Expand(%v, %d) is not normalized: %v", e, prec, a)
	}
	return a
}

// cut is series.Cut, which must not fail.
func cut(t *testing.T, a api.Series, prec int) api.Series {
	t.Helper()
	b, code := series.Cut(a, prec)
	if code != api.OK {
		t.Fatalf("Cut(%v, %d): %d", a, prec, code)
	}
	return b
}

// definitions are those of the names in random expressions.
func definitions(t *testing.T) []api.Binding {
	t.Helper()
	return define(t, "f", "G(3, 1, -3, 1)", "g", "f^2*j - E6", "h", "V(2, Delta) + U(2, Delta)")
}

// eighth is a form of rank 8: many vectors are to be searched for its theta series.
const eighth = "theta(8)[2, -1, 0, 0, 0, 0, 0, 0, -1, 2, -1, 0, 0, 0, 0, 0, 0, -1, 2, -1, 0, 0, 0, 0, 0, 0, -1, 2, -1, 0, 0, 0, 0, 0, 0, -1, 2, -1, 0, -1, 0, 0, 0, 0, -1, 2, -1, 0, 0, 0, 0, 0, 0, -1, 2, 0, 0, 0, 0, 0, -1, 0, 0, 2]"

// atoms are expressions without arguments, of various weights and poles.
func atoms() []string {
	return []string{
		"0", "5/3", "-2", "E4", "E6", "E4", "E6", "G(2, 1, 1, 2)", "G(3, 1, -4, 1)", "eta(11)[2, 2]", "eta(4)[-4, 10, -4]", "eta(25)[-1, 0, 1]", "eta(2)[24, -24]", "theta(2)[2, 0, 0, 2]", "theta(2)[2, 1, 1, 2]", "Delta", "j", "j", "newform(11, 2, 1, 0)", "f", "g", "h",
	}
}

// random returns the text of an expression with at most so many levels; T does not occur.
func random(r *rand.Rand, levels int) string {
	if levels <= 1 || r.Intn(5) == 0 {
		l := atoms()
		return l[r.Intn(len(l))]
	}
	a, b := "("+random(r, levels-1)+")", "("+random(r, levels-1)+")"
	switch r.Intn(10) {
	case 0, 1:
		return a + " + 2*" + a + "*E4^0 - 1/3*" + a
	case 2, 3, 4:
		return a + "*" + b
	case 5:
		return a + "^" + []string{"0", "1", "2", "3"}[r.Intn(4)]
	case 6:
		return []string{"Delta^-1", "Delta^-2", "eta(4)[-4, 10, -4]^-2", "eta(2)[24, -24]^-1", "0^3", "2*3"}[r.Intn(6)]
	case 7:
		return []string{"V", "U"}[r.Intn(2)] + "(" + []string{"1", "2", "3", "6"}[r.Intn(4)] + ", " + a + ")"
	case 8:
		return []string{"twist(1, ", "twist(-3, ", "twist(-4, ", "serre("}[r.Intn(4)] + a + ")"
	}
	return "bracket(" + []string{"0", "1", "2"}[r.Intn(3)] + ", " + a + ", " + b + ")"
}

// spoil overwrites the memory of an expression.
func spoil(e api.Expr) {
	for i := range e.N {
		e.N[i] = 77
	}
	for _, mag := range [][]uint32{e.C.Num.Mag, e.C.Den.Mag} {
		for i := range mag {
			mag[i] = 77
		}
	}
	for i, a := range e.Args {
		spoil(a)
		e.Args[i] = api.Expr{}
	}
}
