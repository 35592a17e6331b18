package expand

import (
	"halfplane/api"
	"halfplane/eisenstein"
	"halfplane/eta"
	"halfplane/heckeseries"
	"halfplane/kindtree"
	"halfplane/levelone"
	"halfplane/newform"
	"halfplane/quasimodular"
	"halfplane/rational"
	"halfplane/series"
	"halfplane/theta"
)

// expansions finds the expansions of nodes.
type expansions struct {
	names    kept[asked, api.Series]
	newforms kept[api.Spec, *newform.Forms]
}

// of returns the expansion of a node with a precision that it may be asked for.
func (s *expansions) of(n kindtree.Node, prec int) (api.Series, api.Errno) {
	switch {
	case n.Expr.Op == api.OpName:
		return s.names.get(asked{n.Expr.Name, prec}, func() (api.Series, api.Errno) {
			return s.of(n.Args[0], prec)
		})
	case isAtom(n):
		return s.atom(n.Expr, prec)
	}
	l := make([]api.Series, len(n.Args))
	for i, a := range n.Args {
		var code api.Errno
		if l[i], code = s.of(a, argumentPrec(n, i, prec)); code != api.OK {
			return api.Series{}, code
		}
	}
	return series.Cut(combine(n, l, prec), prec)
}

// atom returns the expansion of an atom.
func (s *expansions) atom(e api.Expr, prec int) (api.Series, api.Errno) {
	switch e.Op {
	case api.OpNumber:
		return series.Monomial(e.C, 0, prec)
	case api.OpE:
		return eisenstein.Normalized(e.N[0], prec)
	case api.OpG:
		return eisenstein.Real(e.N[0], e.N[1], e.N[2], e.N[3], prec)
	case api.OpEta:
		return eta.Expansion(kindtree.Eta(e), prec)
	case api.OpTheta:
		return theta.Expansion(kindtree.Gram(e), prec)
	case api.OpDelta:
		return levelone.Delta(prec)
	case api.OpJ:
		return levelone.J(prec)
	case api.OpPower:
		return powerOfAtom(e.Args[0], e.N[0], prec)
	}
	f, code := s.newforms.get(kindtree.Spec(e), func() (*newform.Forms, api.Errno) {
		return newform.New(kindtree.Spec(e))
	})
	if code != api.OK {
		return api.Series{}, code
	}
	return f.Expansion(e.N[3], 0, prec)
}

// powerOfAtom returns the expansion of e^n for n <= 0, where e is Delta or an eta quotient
// if n is negative.
func powerOfAtom(e api.Expr, n, prec int) (api.Series, api.Errno) {
	if n == 0 {
		return series.Monomial(rational.Of(1), 0, prec)
	}
	quotient := api.Eta{Level: 1, Exps: []int{24}}
	if e.Op == api.OpEta {
		quotient = kindtree.Eta(e)
	}
	quotient, _ = eta.Power(quotient, n)
	return eta.Expansion(quotient, prec)
}

// combine returns the expansion of a node, the arguments of which have the expansions in l,
// with the precision prec or a higher one. Errors cannot occur: by the kinds of the
// arguments no series has too high a pole.
func combine(n kindtree.Node, l []api.Series, prec int) api.Series {
	var a api.Series
	switch n.Expr.Op {
	case api.OpSum:
		return fold(l, series.Add)
	case api.OpProduct:
		return fold(l, series.Mul)
	case api.OpPower:
		a, _ = series.Power(l[0], n.Expr.N[0])
	case api.OpV:
		a, _ = series.Expand(l[0], n.Expr.N[0])
	case api.OpU:
		a, _ = series.Contract(l[0], n.Expr.N[0])
	case api.OpT:
		a, _ = heckeseries.Hecke(l[0], kindtree.Space(n.Args[0].Kind), n.Expr.N[0])
	case api.OpTwist:
		a, _ = series.Twist(l[0], n.Expr.N[0])
	case api.OpSerre:
		a, _ = quasimodular.SerreSeries(l[0], n.Args[0].Kind.Weight)
	case api.OpBracket:
		a, _ = quasimodular.BracketSeries(weighted(n.Args[0], l[0]), weighted(n.Args[1], l[1]), n.Expr.N[0])
	}
	return a
}

// fold combines the elements of a list, from the left.
func fold(l []api.Series, f func(a, b api.Series) (api.Series, api.Errno)) api.Series {
	a := l[0]
	for _, b := range l[1:] {
		a, _ = f(a, b)
	}
	return a
}

// weighted returns a series with the weight of its node.
func weighted(n kindtree.Node, a api.Series) api.Weighted {
	return api.Weighted{Series: a, Weight: n.Kind.Weight}
}
