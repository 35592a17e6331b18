package expr

import (
	"halfplane/api"
	"halfplane/rational"
)

const (
	maxNumber   = 1000000 // absolute values of the integers of a node
	maxName     = 20      // bytes of a name
	maxBrackets = 6       // orders of brackets
)

// shape tells how many integers and how many arguments a node has.
type shape struct {
	leastIntegers, mostIntegers int
	leastArgs, mostArgs         int
}

// shapeOf returns the shape of the nodes with an operation, and whether there is such an
// operation.
func shapeOf(op int) (shape, bool) {
	switch op {
	case api.OpNumber, api.OpDelta, api.OpJ, api.OpName:
		return shape{}, true
	case api.OpE:
		return shape{1, 1, 0, 0}, true
	case api.OpG, api.OpNewform:
		return shape{4, 4, 0, 0}, true
	case api.OpEta:
		return shape{2, 41, 0, 0}, true
	case api.OpTheta:
		return shape{2, 65, 0, 0}, true
	case api.OpSum, api.OpProduct:
		return shape{0, 0, 2, api.MaxNodes}, true
	case api.OpPower, api.OpV, api.OpU, api.OpT, api.OpTwist:
		return shape{1, 1, 1, 1}, true
	case api.OpSerre:
		return shape{0, 0, 1, 1}, true
	case api.OpBracket:
		return shape{1, 1, 2, 2}, true
	}
	return shape{}, false
}

// limitsOf returns the least and the greatest integer of the nodes with an operation.
func limitsOf(op int) (least, most int) {
	switch op {
	case api.OpE:
		return 0, maxNumber
	case api.OpPower:
		return -api.MaxPower, api.MaxPower
	case api.OpV, api.OpU, api.OpT:
		return 1, api.MaxPrec
	case api.OpBracket:
		return 0, maxBrackets
	}
	return -maxNumber, maxNumber
}

// IsName reports whether a text is a name.
func IsName(s string) bool {
	if len(s) == 0 || len(s) > maxName || isEisenstein(s) {
		return false
	}
	if _, ok := opOf(s); ok {
		return false
	}
	for i, r := range s {
		if !isLetter(r) && (i == 0 || !isDigit(r)) {
			return false
		}
	}
	return true
}

// isEisenstein reports whether a text is an E followed by digits.
func isEisenstein(s string) bool {
	return len(s) > 1 && s[0] == 'E' && isDigits(s[1:])
}

// isDigits reports whether a text consists of digits.
func isDigits(s string) bool {
	for _, r := range s {
		if !isDigit(r) {
			return false
		}
	}
	return true
}

// isLetter reports whether a character is a letter.
func isLetter(r rune) bool {
	return r >= 'a' && r <= 'z' || r >= 'A' && r <= 'Z'
}

// isDigit reports whether a character is a digit.
func isDigit(r rune) bool {
	return r >= '0' && r <= '9'
}

// isLarge reports whether an expression has too many nodes or levels. It looks at few nodes
// only, so that the expression need not be a finite one.
func isLarge(e api.Expr) bool {
	nodes := 0
	return !fits(e, 1, &nodes)
}

// fits counts the nodes of an expression at a level as long as there are not too many of
// them, and not too many levels.
func fits(e api.Expr, level int, nodes *int) bool {
	*nodes++
	if *nodes > api.MaxNodes || level > api.MaxNest {
		return false
	}
	for _, a := range e.Args {
		if !fits(a, level+1, nodes) {
			return false
		}
	}
	return true
}

// checkNodes returns the first error of a node, a node before its arguments.
func checkNodes(e api.Expr) api.Errno {
	if !isFormed(e) {
		return api.ErrForm
	}
	least, most := limitsOf(e.Op)
	for _, n := range e.N {
		if n < least || n > most {
			return api.ErrRange
		}
	}
	for _, a := range e.Args {
		if code := checkNodes(a); code != api.OK {
			return code
		}
	}
	return api.OK
}

// isFormed reports whether the parts of a node are those that its operation has.
func isFormed(e api.Expr) bool {
	s, ok := shapeOf(e.Op)
	return ok && len(e.N) >= s.leastIntegers && len(e.N) <= s.mostIntegers &&
		len(e.Args) >= s.leastArgs && len(e.Args) <= s.mostArgs &&
		(e.Op == api.OpName && IsName(e.Name) || e.Op != api.OpName && e.Name == "") &&
		(e.Op == api.OpNumber || rational.Sign(e.C) == 0)
}
