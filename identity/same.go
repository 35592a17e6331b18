package identity

import (
	"slices"

	"halfplane/api"
)

// isSame reports whether two series have the same fields: a certificate contains a series as
// it is written, not only its value.
func isSame(a, b api.Series) bool {
	return a.From == b.From && slices.EqualFunc(a.Coef, b.Coef, isSameRat)
}

func isSameRat(a, b api.Rat) bool {
	return isSameInt(a.Num, b.Num) && isSameInt(a.Den, b.Den)
}

func isSameInt(a, b api.Int) bool {
	return a.Neg == b.Neg && slices.Equal(a.Mag, b.Mag)
}
