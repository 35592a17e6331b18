package kindtree

import (
	"halfplane/api"
	"halfplane/arith"
	"halfplane/dimension"
	"halfplane/eisenstein"
	"halfplane/eta"
	"halfplane/heckeseries"
	"halfplane/theta"
)

// maxOrbit is the greatest number of an orbit of newforms.
const maxOrbit = 63

// rule returns the kind of a node, which need not be valid, from those of its arguments.
func (n Node) rule() (api.FormKind, api.Errno) {
	switch n.Expr.Op {
	case api.OpNumber:
		return number, api.OK
	case api.OpE:
		return ofE(n.Expr.N[0])
	case api.OpG:
		return ofG(n.Expr.N)
	case api.OpEta:
		return ofEta(Eta(n.Expr))
	case api.OpTheta:
		return ofTheta(Gram(n.Expr))
	case api.OpDelta:
		return api.FormKind{Weight: 12, Level: 1, Disc: 1, Cusp: true}, api.OK
	case api.OpJ:
		return api.FormKind{Level: 1, Disc: 1, Pole: 1}, api.OK
	case api.OpName:
		return n.Args[0].Kind, api.OK
	case api.OpNewform:
		return ofNewform(Spec(n.Expr), n.Expr.N[3])
	case api.OpSum:
		return n.sum()
	case api.OpProduct:
		return n.product(), api.OK
	case api.OpPower:
		return n.power()
	case api.OpV, api.OpU:
		return n.replaced(), api.OK
	case api.OpT:
		return n.hecke()
	case api.OpTwist:
		return n.twist()
	case api.OpSerre:
		return n.serre()
	}
	return n.bracket()
}

// Eta returns the eta quotient of an expression with OpEta.
func Eta(e api.Expr) api.Eta {
	return api.Eta{Level: e.N[0], Exps: e.N[1:]}
}

// Gram returns the even form of an expression with OpTheta.
func Gram(e api.Expr) api.Gram {
	return api.Gram{Rank: e.N[0], A: e.N[1:]}
}

// Spec returns the space of an expression with OpNewform.
func Spec(e api.Expr) api.Spec {
	return api.Spec{Level: e.N[0], Weight: e.N[1], Disc: e.N[2]}
}

func ofE(k int) (api.FormKind, api.Errno) {
	if k == 2 {
		return api.FormKind{}, api.ErrKind
	}
	_, code := eisenstein.Normalized(k, 1)
	return api.FormKind{Weight: k, Level: 1, Disc: 1}, code
}

func ofG(n []int) (api.FormKind, api.Errno) {
	k, d1, d2, t := n[0], n[1], n[2], n[3]
	if _, code := eisenstein.Real(k, d1, d2, t, 1); code != api.OK {
		return api.FormKind{}, code
	}
	return api.FormKind{Weight: k, Level: max(d1*d2, -d1*d2) * t, Disc: composite(d1, d2)}, api.OK
}

func ofEta(e api.Eta) (api.FormKind, api.Errno) {
	weight, code := eta.Weight(e)
	if code != api.OK {
		return api.FormKind{}, code
	}
	disc, code := eta.Disc(e)
	if code != api.OK {
		return api.FormKind{}, code
	}
	pole, _ := eta.Pole(e)
	cusp, _ := eta.Cuspidal(e)
	return api.FormKind{Weight: weight, Level: e.Level, Disc: disc, Pole: pole, Cusp: cusp}, api.OK
}

func ofTheta(g api.Gram) (api.FormKind, api.Errno) {
	if code := theta.Check(g); code != api.OK {
		return api.FormKind{}, code
	}
	if g.Rank%2 != 0 {
		return api.FormKind{}, api.ErrParity
	}
	level, code := theta.Level(g)
	if code != api.OK {
		return api.FormKind{}, code
	}
	disc, code := theta.Disc(g)
	return api.FormKind{Weight: g.Rank / 2, Level: level, Disc: disc}, code
}

func ofNewform(s api.Spec, orbit int) (api.FormKind, api.Errno) {
	if code := dimension.Check(s); code != api.OK {
		return api.FormKind{}, code
	}
	if orbit < 0 || orbit > maxOrbit {
		return api.FormKind{}, api.ErrRange
	}
	return api.FormKind{Weight: s.Weight, Level: s.Level, Disc: s.Disc, Cusp: true}, api.OK
}

func (n Node) sum() (api.FormKind, api.Errno) {
	k := n.Args[0].Kind
	for _, a := range n.Args[1:] {
		var code api.Errno
		if k, code = Join(k, a.Kind); code != api.OK {
			return k, code
		}
	}
	return k, api.OK
}

// product stops at a level that is too high: the discriminants might become too great.
func (n Node) product() api.FormKind {
	k := n.Args[0].Kind
	for _, a := range n.Args[1:] {
		if k = times(k, a.Kind); k.Level == tooHigh {
			break
		}
	}
	return k
}

func (n Node) power() (api.FormKind, api.Errno) {
	a, exponent := n.Args[0], n.Expr.N[0]
	switch {
	case exponent > 0:
		return power(a.Kind, exponent), api.OK
	case exponent == 0:
		return number, api.OK
	case a.Expr.Op == api.OpDelta:
		return api.FormKind{Weight: 12 * exponent, Level: 1, Disc: 1, Pole: -exponent}, api.OK
	case a.Expr.Op != api.OpEta:
		return api.FormKind{}, api.ErrPole
	}
	e, code := eta.Power(Eta(a.Expr), exponent)
	if code != api.OK {
		return api.FormKind{}, code
	}
	return ofEta(e)
}

// replaced returns the kind of V or U.
func (n Node) replaced() api.FormKind {
	k, d := n.Args[0].Kind, n.Expr.N[0]
	k.Pole *= d
	if n.Expr.Op == api.OpV {
		k.Level *= d
	} else {
		k.Level = lcm(k.Level, radical(d))
	}
	return k
}

// radical returns the product of the primes that divide d.
func radical(d int) int {
	r := 1
	l, _ := arith.Factor(d)
	for _, f := range l {
		r *= f.Prime
	}
	return r
}

func (n Node) hecke() (api.FormKind, api.Errno) {
	k := n.Args[0].Kind
	if code := heckeseries.Check(Space(k)); code != api.OK {
		return api.FormKind{}, code
	}
	k.Pole *= n.Expr.N[0]
	return k, api.OK
}

// Space returns the level, the weight and the discriminant of a kind.
func Space(k api.FormKind) api.Spec {
	return api.Spec{Level: k.Level, Weight: k.Weight, Disc: k.Disc}
}

func (n Node) twist() (api.FormKind, api.Errno) {
	k, e := n.Args[0].Kind, n.Expr.N[0]
	if !isDiscriminant(e) || e > api.MaxTwist || e < -api.MaxTwist {
		return api.FormKind{}, api.ErrDisc
	}
	if e != 1 {
		k.Level = lcm(lcm(k.Level, max(e*k.Disc, -e*k.Disc)), e*e)
		k.Pole *= e * e
	}
	return k, api.OK
}

func (n Node) serre() (api.FormKind, api.Errno) {
	k := n.Args[0].Kind
	if k.Weight < 0 {
		return api.FormKind{}, api.ErrKind
	}
	k.Weight += 2
	return k, api.OK
}

func (n Node) bracket() (api.FormKind, api.Errno) {
	a, b, order := n.Args[0].Kind, n.Args[1].Kind, n.Expr.N[0]
	if a.Weight < 0 || b.Weight < 0 {
		return api.FormKind{}, api.ErrKind
	}
	k := times(a, b)
	k.Weight += 2 * order
	k.Cusp = k.Pole == 0 && (order > 0 || a.Cusp || b.Cusp)
	return k, api.OK
}
