package expr

import (
	"strconv"
	"strings"

	"halfplane/api"
	"halfplane/rational"
)

// maxBits is a number of binary digits with which a number has more than MaxText decimal
// digits.
const maxBits = 4 * api.MaxText

// Print writes an expression.
func Print(e api.Expr) (string, api.Errno) {
	if code := Check(e); code != api.OK {
		return "", code
	}
	e = clean(e)
	// Great numbers would take a long time.
	if hasMoreBits(e, maxBits) {
		return "", api.ErrLarge
	}
	s := sumText(e)
	if len(s) > api.MaxText {
		return "", api.ErrLarge
	}
	return s, api.OK
}

// hasMoreBits reports whether a number has more than so many binary digits.
func hasMoreBits(e api.Expr, most int) bool {
	if rational.Bits(e.C) > most {
		return true
	}
	for _, a := range e.Args {
		if hasMoreBits(a, most) {
			return true
		}
	}
	return false
}

// sumText returns the text of an expression where a sum may stand.
func sumText(e api.Expr) string {
	terms := []api.Expr{e}
	if e.Op == api.OpSum {
		terms = e.Args
	}
	var b strings.Builder
	for i, x := range terms {
		text, isNegative := termText(x)
		switch {
		case i == 0 && isNegative:
			b.WriteString("-")
		case i > 0 && isNegative:
			b.WriteString(" - ")
		case i > 0:
			b.WriteString(" + ")
		}
		b.WriteString(text)
	}
	return b.String()
}

// termText returns the text of an argument of a sum without its minus sign, and whether it
// has one.
func termText(e api.Expr) (text string, isNegative bool) {
	switch e.Op {
	case api.OpNumber:
		return rational.Format(rational.Abs(e.C)), rational.Sign(e.C) < 0
	case api.OpProduct:
		return productText(e.Args)
	}
	return factorText(e), false
}

// productText returns the text of a product without its minus sign, and whether it has one.
func productText(l []api.Expr) (text string, isNegative bool) {
	if first := l[0]; first.Op == api.OpNumber && rational.Sign(first.C) < 0 {
		c := rational.Neg(first.C)
		if l[1].Op != api.OpNumber && rational.Cmp(c, rational.Of(1)) == 0 {
			return factorsText(l[1:]), true
		}
		return factorsText(append([]api.Expr{number(c)}, l[1:]...)), true
	}
	return factorsText(l), false
}

// factorsText returns the texts of the factors of a product.
func factorsText(l []api.Expr) string {
	var texts []string
	for _, x := range l {
		texts = append(texts, factorText(x))
	}
	return strings.Join(texts, "*")
}

// factorText returns the text of a factor.
func factorText(e api.Expr) string {
	switch e.Op {
	case api.OpNumber:
		if rational.Sign(e.C) < 0 {
			return bracketed(e)
		}
		return rational.Format(e.C)
	case api.OpSum, api.OpProduct:
		return bracketed(e)
	case api.OpPower:
		return baseText(e.Args[0]) + "^" + strconv.Itoa(e.N[0])
	}
	return atomText(e)
}

// baseText returns the text of the base of a power.
func baseText(e api.Expr) string {
	switch e.Op {
	case api.OpNumber, api.OpSum, api.OpProduct, api.OpPower:
		return bracketed(e)
	}
	return atomText(e)
}

// bracketed returns the text of an expression in brackets.
func bracketed(e api.Expr) string {
	return "(" + sumText(e) + ")"
}

// atomText returns the text of an expression that is no number, sum, product or power.
func atomText(e api.Expr) string {
	switch e.Op {
	case api.OpName:
		return e.Name
	case api.OpE:
		return "E" + strconv.Itoa(e.N[0])
	case api.OpDelta, api.OpJ:
		return textOf(e.Op)
	case api.OpEta, api.OpTheta:
		return textOf(e.Op) + "(" + strconv.Itoa(e.N[0]) + ")[" + strings.Join(integerTexts(e.N[1:]), ", ") + "]"
	}
	items := integerTexts(e.N)
	for _, a := range e.Args {
		items = append(items, sumText(a))
	}
	return textOf(e.Op) + "(" + strings.Join(items, ", ") + ")"
}

// integerTexts returns the texts of integers.
func integerTexts(l []int) []string {
	var texts []string
	for _, n := range l {
		texts = append(texts, strconv.Itoa(n))
	}
	return texts
}
