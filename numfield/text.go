package numfield

import (
	"slices"
	"strconv"
	"strings"

	"halfplane/api"
	"halfplane/rational"
)

// format returns a normalized element as a sum of terms.
func format(a api.Elem) string {
	if len(a) == 0 {
		return "0"
	}
	var b strings.Builder
	for i, c := range slices.Backward(a) {
		sign := rational.Sign(c)
		first := i == len(a)-1
		switch {
		case sign == 0:
			continue
		case first && sign < 0:
			b.WriteString("-")
		case sign < 0:
			b.WriteString(" - ")
		case !first:
			b.WriteString(" + ")
		}
		b.WriteString(formatTerm(rational.Format(rational.Abs(c)), i))
	}
	return b.String()
}

// formatTerm returns the term with the coefficient, which is positive, and the exponent n.
func formatTerm(coefficient string, n int) string {
	if n == 0 {
		return coefficient
	}
	power := "a"
	if n > 1 {
		power = "a^" + strconv.Itoa(n)
	}
	if coefficient == "1" {
		return power
	}
	return coefficient + "*" + power
}
