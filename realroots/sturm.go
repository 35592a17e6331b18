package realroots

import (
	"halfplane/api"
	"halfplane/bigint"
	"halfplane/rational"
	"halfplane/zpoly"
)

// chain returns Sturm's chain of f, which is not 0.
func chain(f api.ZPoly) []api.ZPoly {
	l := []api.ZPoly{withoutContent(f)}
	for g := withoutContent(zpoly.Derivative(f)); len(g) > 0; g = negativeRemainder(l[len(l)-2], l[len(l)-1]) {
		l = append(l, g)
	}
	return l
}

// withoutContent returns f divided by its content, or 0 for 0.
func withoutContent(f api.ZPoly) api.ZPoly {
	g := zpoly.Primitive(f)
	if len(f) > 0 && bigint.Sign(f[len(f)-1]) < 0 {
		return negative(g)
	}
	return g
}

// negative returns -f.
func negative(f api.ZPoly) api.ZPoly {
	return zpoly.Scale(f, bigint.Of(-1))
}

// negativeRemainder returns minus the remainder of f modulo g, times a positive number.
func negativeRemainder(f, g api.ZPoly) api.ZPoly {
	_, r, _ := zpoly.PseudoDiv(f, g)
	// r is the remainder times a power of the leading coefficient of g.
	exponent := len(f) - len(g) + 1
	if bigint.Sign(g[len(g)-1]) > 0 || exponent%2 == 0 {
		r = negative(r)
	}
	return withoutContent(r)
}

// sturm is the chain of a square-free polynomial.
type sturm []api.ZPoly

// newSturm returns the chain of the square-free polynomial with the roots of f.
func newSturm(f api.ZPoly) sturm {
	return chain(squareFree(zpoly.Normal(f)))
}

// changes returns the number of sign changes of the values of the chain at x, where
// zeros are omitted.
func (s sturm) changes(x api.Rat) int {
	var signs []int
	for _, f := range s {
		if sign := signAt(f, x); sign != 0 {
			signs = append(signs, sign)
		}
	}
	n := 0
	for i := 1; i < len(signs); i++ {
		if signs[i] != signs[i-1] {
			n++
		}
	}
	return n
}

// count returns the number of roots in the interval, which may be empty.
func (s sturm) count(i api.Interval) int {
	if rational.Cmp(i.Lo, i.Hi) >= 0 {
		return 0
	}
	return s.changes(i.Lo) - s.changes(i.Hi)
}

// isolate returns the isolating intervals in the node i of the bisection tree.
func (s sturm) isolate(i api.Interval) []api.Interval {
	var l []api.Interval
	// visit visits a node, given the numbers of sign changes at its ends.
	var visit func(i api.Interval, low, high int)
	visit = func(i api.Interval, low, high int) {
		switch low - high {
		case 0:
		case 1:
			// Neighbours must not share the memory of their common end.
			l = append(l, normal(i))
		default:
			m := middle(i)
			n := s.changes(m)
			visit(api.Interval{Lo: i.Lo, Hi: m}, low, n)
			visit(api.Interval{Lo: m, Hi: i.Hi}, n, high)
		}
	}
	visit(i, s.changes(i.Lo), s.changes(i.Hi))
	return l
}
