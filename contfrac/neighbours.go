package contfrac

import (
	"halfplane/api"
	"halfplane/arith"
	"halfplane/sl2"
)

// Unimodular returns the matrix of SL2(Z) that maps 0 to a and infinity to b, and whose
// first column is P and Q of b.
func Unimodular(a, b api.Cusp) (api.Mat2, api.Errno) {
	if e := checkBoth(a, b); e != api.OK {
		return api.Mat2{}, e
	}
	det := b.P*a.Q - a.P*b.Q
	if det != 1 && det != -1 {
		return api.Mat2{}, api.ErrForm
	}
	return api.Mat2{A: b.P, B: det * a.P, C: b.Q, D: det * a.Q}, api.OK
}

// Mediant returns the mediant of two Farey neighbours a < b, where infinity is less than
// all other cusps in a, and greater in b.
func Mediant(a, b api.Cusp) (api.Cusp, api.Errno) {
	if e := checkBoth(a, b); e != api.OK {
		return api.Cusp{}, e
	}
	if a.Q == 0 {
		a.P = -1
	}
	if b.P*a.Q-a.P*b.Q != 1 {
		return api.Cusp{}, api.ErrForm
	}
	c := api.Cusp{P: a.P + b.P, Q: a.Q + b.Q}
	if c.P < -api.MaxEntry || c.P > api.MaxEntry || c.Q > api.MaxEntry {
		return api.Cusp{}, api.ErrLarge
	}
	return c, api.OK
}

// Parents returns the two Farey neighbours a < b with smaller denominators whose mediant
// is c.
func Parents(c api.Cusp) (api.Cusp, api.Cusp, api.Errno) {
	if e := sl2.CheckCusp(c); e != api.OK {
		return api.Cusp{}, api.Cusp{}, e
	}
	if c.Q < 2 {
		return api.Cusp{}, api.Cusp{}, api.ErrForm
	}
	// c is a neighbour of a: P * q - p * Q = 1 for a = p/q.
	q, _ := arith.Inverse(c.P, c.Q)
	a := api.Cusp{P: (c.P*q - 1) / c.Q, Q: q}
	b := api.Cusp{P: c.P - a.P, Q: c.Q - a.Q}
	return a, b, api.OK
}

// Farey returns the Farey sequence of order n.
func Farey(n int) ([]api.Cusp, api.Errno) {
	if n < 1 || n > 60 {
		return nil, api.ErrRange
	}
	a, b := api.Cusp{P: 0, Q: 1}, api.Cusp{P: 1, Q: n}
	l := []api.Cusp{a}
	for a.P < a.Q {
		// The next element is a neighbour of b with the greatest possible denominator.
		k := (n + a.Q) / b.Q
		a, b = b, api.Cusp{P: k*b.P - a.P, Q: k*b.Q - a.Q}
		l = append(l, a)
	}
	return l, api.OK
}
