package paths

import (
	"cmp"
	"slices"

	"halfplane/api"
	"halfplane/arith"
	"halfplane/bigint"
	"halfplane/contfrac"
	"halfplane/homogeneous"
	"halfplane/projline"
	"halfplane/qpoly"
	"halfplane/rational"
	"halfplane/symbols"
)

// class returns the sum of the classes of poly{x, y} for consecutive cusps x, y of a
// chain, or ErrMember if two are not Farey neighbours.
func class(m *symbols.Module, poly []api.Rat, chain []api.Cusp) ([]api.Rat, api.Errno) {
	integers, factor := qpoly.Clear(poly)
	s := m.Spec()
	// The same list serves for all steps of the chain.
	points, _ := projline.List(s.Level)
	sum := make([]api.Int, len(poly)*len(points))
	for i := 1; i < len(chain); i++ {
		g, e := contfrac.Unimodular(chain[i-1], chain[i])
		if e != api.OK {
			return nil, api.ErrMember
		}
		n, sign := locate(s, points, g.C, g.D)
		for _, x := range homogeneous.Substitute(integers, len(poly)-1, g) {
			sum[n] = bigint.Add(sum[n], bigint.Mul(bigint.Of(sign), x))
			n += len(points)
		}
	}
	return m.Vector(fractions(sum, factor))
}

// locate returns the index n of the normal form of (u, v), and the sign for which a Manin
// symbol with (u, v) is sign times that with the normal form.
func locate(s api.Spec, points []api.ProjPoint, u, v int) (n, sign int) {
	p, _ := projline.Normal(s.Level, u, v)
	n, _ = slices.BinarySearchFunc(points, p, func(x, y api.ProjPoint) int {
		return cmp.Or(cmp.Compare(x.U, y.U), cmp.Compare(x.V, y.V))
	})
	return n, arith.Kronecker(s.Disc, p.Unit)
}

// fractions returns the multiples of integers by a factor.
func fractions(l []api.Int, factor api.Rat) []api.Rat {
	multiples := make([]api.Rat, len(l))
	for i, x := range l {
		multiples[i] = rational.Mul(rational.Whole(x), factor)
	}
	return multiples
}
