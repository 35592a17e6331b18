package manin

import (
	"halfplane/api"
	"halfplane/arith"
	"halfplane/bigint"
	"halfplane/dimension"
	"halfplane/homogeneous"
	"halfplane/projline"
)

// space is a valid Spec with the pairs of its symbols.
type space struct {
	api.Spec
	pairs []api.ProjPoint
	// index is the inverse of pairs.
	index map[[2]int]int
}

// spaceOf returns the space of s, or the error of s.
func spaceOf(s api.Spec) (space, api.Errno) {
	if e := dimension.Check(s); e != api.OK {
		return space{}, e
	}
	pairs, _ := projline.List(s.Level)
	index := make(map[[2]int]int)
	for i, p := range pairs {
		index[[2]int{p.U, p.V}] = i
	}
	return space{s, pairs, index}, api.OK
}

// degree returns the degree of the polynomials.
func (m space) degree() int {
	return m.Weight - 2
}

// count returns the number of the numbered symbols.
func (m space) count() int {
	return (m.degree() + 1) * len(m.pairs)
}

// isNumber reports whether there is a symbol number n.
func (m space) isNumber(n int) bool {
	return n >= 0 && n < m.count()
}

// symbol returns the symbol number n.
func (m space) symbol(n int) api.Manin {
	p := m.pairs[n%len(m.pairs)]
	return api.Manin{Exp: n / len(m.pairs), U: p.U, V: p.V}
}

// number returns the number n and the sign for which x is sign times the symbol number n,
// or false if x is no symbol.
func (m space) number(x api.Manin) (n, sign int, ok bool) {
	p, e := projline.Normal(m.Level, x.U%m.Level, x.V%m.Level)
	if e != api.OK {
		return 0, 0, false
	}
	return x.Exp*len(m.pairs) + m.index[[2]int{p.U, p.V}], arith.Kronecker(m.Disc, p.Unit), true
}

// addImage adds the symbol number n times g to v.
func (m space) addImage(v []api.Int, n int, g api.Mat2) {
	x := m.symbol(n)
	// All monomials of the image have the same pair.
	k, sign, ok := m.number(api.Manin{U: x.U*g.A + x.V*g.C, V: x.U*g.B + x.V*g.D})
	if !ok {
		return
	}
	for _, c := range homogeneous.Monomial(x.Exp, m.degree(), g) {
		v[k] = bigint.Add(v[k], bigint.Mul(bigint.Of(sign), c))
		k += len(m.pairs)
	}
}
