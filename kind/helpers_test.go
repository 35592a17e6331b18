package kind_test

import (
	"math/rand"
	"testing"

	"halfplane/api"
	"halfplane/expr"
)

// kindOf returns a kind.
func kindOf(weight, level, disc, pole int, cusp bool) api.FormKind {
	return api.FormKind{Weight: weight, Level: level, Disc: disc, Pole: pole, Cusp: cusp}
}

// parse returns the expression of a text.
func parse(t *testing.T, s string) api.Expr {
	t.Helper()
	e, _, code := expr.Parse(s)
	if code != api.OK {
		t.Fatalf("Parse(%q): %d", s, code)
	}
	return e
}

// define returns definitions: names and texts in turn.
func define(t *testing.T, l ...string) []api.Binding {
	t.Helper()
	var defs []api.Binding
	for i := 0; i < len(l); i += 2 {
		defs = append(defs, api.Binding{Name: l[i], Expr: parse(t, l[i+1])})
	}
	return defs
}

// eighth is a form of rank 8 and level 1.
const eighth = "theta(8)[2, -1, 0, 0, 0, 0, 0, 0, -1, 2, -1, 0, 0, 0, 0, 0, 0, -1, 2, -1, 0, 0, 0, 0, 0, 0, -1, 2, -1, 0, 0, 0, 0, 0, 0, -1, 2, -1, 0, -1, 0, 0, 0, 0, -1, 2, -1, 0, 0, 0, 0, 0, 0, -1, 2, 0, 0, 0, 0, 0, -1, 0, 0, 2]"

// atoms are expressions without arguments that have kinds of all sorts.
func atoms() []string {
	return []string{
		"0", "5/3", "E4", "E6", "E8", "G(2, 1, 1, 2)", "G(3, 1, -4, 1)", "G(3, -3, 1, 1)", "G(2, 5, 1, 1)", "G(2, 1, 1, 6)", "eta(11)[2, 2]", "eta(4)[-4, 10, -4]", "eta(25)[-1, 0, 1]", "eta(2)[24, -24]", "eta(1)[-24]", "eta(3)[-3, 9]", "theta(2)[2, 0, 0, 2]", "theta(2)[2, 1, 1, 2]", "theta(4)[2, 0, 0, 0, 0, 2, 0, 0, 0, 0, 2, 0, 0, 0, 0, 2]", "Delta", "j", "newform(11, 2, 1, 0)", "newform(7, 3, -7, 0)", "f", "g",
	}
}

// random returns the text of an expression with at most so many levels.
func random(r *rand.Rand, levels int) string {
	if levels <= 1 || r.Intn(4) == 0 {
		l := atoms()
		return l[r.Intn(len(l))]
	}
	a, b := "("+random(r, levels-1)+")", "("+random(r, levels-1)+")"
	switch r.Intn(10) {
	case 0, 1:
		return a + " + 2*" + a + "*E4^0 - " + b
	case 2, 3:
		return a + "*" + b
	case 4:
		return a + "^" + []string{"0", "1", "2", "3"}[r.Intn(4)]
	case 5:
		return []string{"Delta^-1", "Delta^-2", "eta(4)[-4, 10, -4]^-2", "eta(2)[24, -24]^-1"}[r.Intn(4)]
	case 6:
		return []string{"V", "U", "T"}[r.Intn(3)] + "(" + []string{"1", "2", "3", "6"}[r.Intn(4)] + ", " + a + ")"
	case 7:
		return "twist(" + []string{"1", "-3", "-4", "5"}[r.Intn(4)] + ", " + a + ")"
	case 8:
		return "serre(" + a + ")"
	}
	return "bracket(" + []string{"0", "1", "2"}[r.Intn(3)] + ", " + a + ", " + b + ")"
}

// spoil overwrites the memory of an expression.
func spoil(e api.Expr) {
	for i := range e.N {
		e.N[i] = 77
	}
	for i, a := range e.Args {
		spoil(a)
		e.Args[i] = api.Expr{}
	}
}
