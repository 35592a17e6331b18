package identity

import (
	"slices"

	"halfplane/api"
)

// copyOfAll returns definitions anew, as they are given.
func copyOfAll(defs []api.Binding) []api.Binding {
	var l []api.Binding
	for _, d := range defs {
		l = append(l, api.Binding{Name: d.Name, Expr: copyOf(d.Expr)})
	}
	return l
}

// copyOf returns an expression anew, as it is given. The copies of layer 52 have their numbers
// in lowest terms, but a certificate is about what was asked, as it was written.
func copyOf(e api.Expr) api.Expr {
	c := api.Expr{Op: e.Op, N: slices.Clone(e.N), C: copyOfRat(e.C), Name: e.Name}
	for _, a := range e.Args {
		c.Args = append(c.Args, copyOf(a))
	}
	return c
}

func copyOfRat(x api.Rat) api.Rat {
	return api.Rat{Num: copyOfInt(x.Num), Den: copyOfInt(x.Den)}
}

func copyOfInt(x api.Int) api.Int {
	return api.Int{Neg: x.Neg, Mag: slices.Clone(x.Mag)}
}
