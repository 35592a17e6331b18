package realroots

import (
	"halfplane/api"
	"halfplane/bigint"
	"halfplane/rational"
	"halfplane/zpoly"
)

// root is the only root of a square-free polynomial in an interval.
type root struct {
	poly api.ZPoly
	in   api.Interval
	// high is the sign of the polynomial at the upper end. It has this sign from the
	// root to the upper end, and the opposite one from the lower end to the root; if it
	// is 0, the upper end is the root.
	high int
}

// newRoot returns the root of f in i, or the first error of f and i.
func newRoot(f api.ZPoly, i api.Interval) (root, api.Errno) {
	if e := check(f); e != api.OK {
		return root{}, e
	}
	i = normal(i)
	s := newSturm(f)
	if s.count(i) != 1 {
		return root{}, api.ErrMember
	}
	return root{s[0], i, signAt(s[0], i.Hi)}, api.OK
}

// halve replaces the interval by the half with the root.
func (a *root) halve() {
	m := middle(a.in)
	sign := signAt(a.poly, m)
	if sign == 0 || sign == a.high {
		a.in.Hi, a.high = m, sign
	} else {
		a.in.Lo = m
	}
}

// isRootOf reports whether g is 0 at the root, if it is in the part i of its
// interval; otherwise the result is false.
func (a root) isRootOf(g api.ZPoly, i api.Interval) bool {
	if rational.Cmp(i.Lo, i.Hi) >= 0 {
		return false
	}
	// d has no other root in i than a, and this one only once.
	d := zpoly.Gcd(a.poly, g)
	low, high := signAt(d, i.Lo), signAt(d, i.Hi)
	if low == 0 {
		// A root at the lower end is another one; this is the sign just above it.
		low = signAt(zpoly.Derivative(d), i.Lo)
	}
	return low != high
}

// signOf returns the sign of g, which is not 0, at the root.
func (a root) signOf(g api.ZPoly) int {
	if a.isRootOf(g, a.in) {
		return 0
	}
	for {
		// The values of g at the root and at the upper end of the interval differ by
		// at most the length of the interval times the greatest slope.
		value := zpoly.Eval(g, a.in.Hi)
		length := rational.Sub(a.in.Hi, a.in.Lo)
		if rational.Cmp(rational.Abs(value), rational.Mul(length, greatestSlope(g, a.in))) > 0 {
			return rational.Sign(value)
		}
		a.halve()
	}
}

// greatestSlope returns a number that the absolute value of the derivative of g does
// not exceed in the interval.
func greatestSlope(g api.ZPoly, i api.Interval) api.Rat {
	slope := zpoly.Derivative(g)
	for j, c := range slope {
		slope[j] = bigint.Abs(c)
	}
	x := rational.Abs(i.Lo)
	if y := rational.Abs(i.Hi); rational.Cmp(x, y) < 0 {
		x = y
	}
	return zpoly.Eval(slope, x)
}

// compare returns -1, 0 or 1 if a is less than, equal to or greater than b.
func (a root) compare(b root) int {
	common := a.in
	if rational.Cmp(common.Lo, b.in.Lo) < 0 {
		common.Lo = b.in.Lo
	}
	if rational.Cmp(common.Hi, b.in.Hi) > 0 {
		common.Hi = b.in.Hi
	}
	if a.isRootOf(b.poly, common) {
		return 0
	}
	for {
		switch {
		case rational.Cmp(a.in.Hi, b.in.Lo) <= 0:
			return -1
		case rational.Cmp(b.in.Hi, a.in.Lo) <= 0:
			return 1
		}
		a.halve()
		b.halve()
	}
}
