package identity

import (
	"slices"

	"halfplane/api"
	"halfplane/expr"
)

// isSame reports whether two series have the same fields: a certificate contains a series as
// it is written, not only its value.
func isSame(a, b api.Series) bool {
	return a.From == b.From && slices.EqualFunc(a.Coef, b.Coef, isSameRat)
}

func isSameRat(a, b api.Rat) bool {
	return isSameInt(a.Num, b.Num) && isSameInt(a.Den, b.Den)
}

func isSameInt(a, b api.Int) bool {
	return a.Neg == b.Neg && slices.Equal(a.Mag, b.Mag)
}

// copyOf returns a valid expression anew: a name in it is replaced by itself.
func copyOf(e api.Expr) api.Expr {
	c, _ := expr.Substitute(e, "x", api.Expr{Op: api.OpName, Name: "x"})
	return c
}

// copyOfAll returns definitions with valid expressions anew.
func copyOfAll(defs []api.Binding) []api.Binding {
	var l []api.Binding
	for _, d := range defs {
		l = append(l, api.Binding{Name: d.Name, Expr: copyOf(d.Expr)})
	}
	return l
}
