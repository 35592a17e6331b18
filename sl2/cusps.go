package sl2

import (
	"halfplane/api"
	"halfplane/arith"
)

// CheckCusp returns OK for cusps.
func CheckCusp(c api.Cusp) api.Errno {
	switch {
	case !isEntry(c.P) || c.Q < 0 || c.Q > api.MaxEntry:
		return api.ErrRange
	case arith.Gcd(c.P, c.Q) != 1 || c.Q == 0 && c.P != 1:
		return api.ErrForm
	}
	return api.OK
}

// Reduce returns the cusp p/q.
func Reduce(p, q int) (api.Cusp, api.Errno) {
	switch {
	case !isEntry(p) || !isEntry(q):
		return api.Cusp{}, api.ErrRange
	case p == 0 && q == 0:
		return api.Cusp{}, api.ErrZero
	}
	return reduced(p, q), api.OK
}

// Apply returns the cusp to which m maps c.
func Apply(m api.Mat2, c api.Cusp) (api.Cusp, api.Errno) {
	det, e := Det(m)
	if e != api.OK {
		return api.Cusp{}, e
	}
	if det == 0 {
		return api.Cusp{}, api.ErrSingular
	}
	if e := CheckCusp(c); e != api.OK {
		return api.Cusp{}, e
	}
	image := reduced(m.A*c.P+m.B*c.Q, m.C*c.P+m.D*c.Q)
	if !isEntry(image.P) || !isEntry(image.Q) {
		return api.Cusp{}, api.ErrLarge
	}
	return image, api.OK
}

// reduced returns p/q in lowest terms; p and q are not both 0.
func reduced(p, q int) api.Cusp {
	g := arith.Gcd(p, q)
	if q < 0 || q == 0 && p < 0 {
		g = -g
	}
	return api.Cusp{P: p / g, Q: q / g}
}
