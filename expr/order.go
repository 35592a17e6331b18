package expr

import (
	"cmp"
	"slices"

	"halfplane/api"
	"halfplane/rational"
)

// Less reports whether a stands before b in the order of expressions.
func Less(a, b api.Expr) bool {
	return compare(a, b) < 0
}

// compare returns a number that is negative, 0 or positive if a stands before b, is equal
// to it, or stands behind it.
func compare(a, b api.Expr) int {
	if c := cmp.Or(cmp.Compare(a.Op, b.Op), slices.Compare(a.N, b.N)); c != 0 {
		return c
	}
	return cmp.Or(rational.Cmp(a.C, b.C), cmp.Compare(a.Name, b.Name), slices.CompareFunc(a.Args, b.Args, compare))
}
