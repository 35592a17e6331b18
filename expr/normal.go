package expr

import (
	"slices"

	"halfplane/api"
	"halfplane/rational"
)

// Normal returns the normal form.
func Normal(e api.Expr) (api.Expr, api.Errno) {
	if code := Check(e); code != api.OK {
		return api.Expr{}, code
	}
	n := &normalizer{}
	f := n.expr(e)
	if n.isLarge || isLarge(f) {
		return api.Expr{}, api.ErrLarge
	}
	return clean(f), api.OK
}

// normalizer makes normal forms. It remembers whether an exponent or the power of a number
// was too great; the results are of no use then. Its results may share memory with its
// arguments, and do not change them.
type normalizer struct{ isLarge bool }

// term is a multiple of an expression, or a number, whose rest has no operation.
type term struct {
	factor api.Rat
	rest   api.Expr
}

// power is a power of an expression.
type power struct {
	base api.Expr
	exp  int
}

// expr returns the normal form of a valid expression.
func (n *normalizer) expr(e api.Expr) api.Expr {
	args := make([]api.Expr, len(e.Args))
	for i, a := range e.Args {
		args[i] = n.expr(a)
	}
	switch e.Op {
	case api.OpSum:
		return sum(args)
	case api.OpProduct:
		return n.product(args)
	case api.OpPower:
		return n.power(args[0], e.N[0])
	case api.OpV, api.OpU, api.OpT, api.OpTwist:
		return operator(e.Op, e.N[0], args[0])
	}
	e.Args = args
	return e
}

// operator returns the normal form of an operator with a number and an argument in normal
// form.
func operator(op, d int, a api.Expr) api.Expr {
	if d == 1 {
		return a
	}
	if op == api.OpV && a.Op == op && d*a.N[0] <= api.MaxPrec {
		d, a = d*a.N[0], a.Args[0]
	}
	return api.Expr{Op: op, N: []int{d}, Args: []api.Expr{a}}
}

// sum returns the normal form of a sum of normal forms.
func sum(args []api.Expr) api.Expr {
	var terms []term
	for _, a := range flat(api.OpSum, args) {
		terms = append(terms, termOf(a))
	}
	slices.SortStableFunc(terms, compareTerms)
	var l []api.Expr
	for i := 0; i < len(terms); {
		total := terms[i]
		for i++; i < len(terms) && compareTerms(terms[i], total) == 0; i++ {
			total.factor = rational.Add(total.factor, terms[i].factor)
		}
		if rational.Sign(total.factor) != 0 {
			l = append(l, total.expr())
		}
	}
	if len(l) == 0 {
		return number(rational.Of(0))
	}
	return joined(api.OpSum, l)
}

// flat returns arguments, with the arguments of those with an operation in their places.
func flat(op int, args []api.Expr) []api.Expr {
	var l []api.Expr
	for _, a := range args {
		if a.Op == op {
			l = append(l, a.Args...)
		} else {
			l = append(l, a)
		}
	}
	return l
}

// termOf returns a normal form as a multiple.
func termOf(e api.Expr) term {
	switch {
	case e.Op == api.OpNumber:
		return term{factor: e.C}
	case e.Op == api.OpProduct && e.Args[0].Op == api.OpNumber:
		return term{e.Args[0].C, joined(api.OpProduct, e.Args[1:])}
	}
	return term{rational.Of(1), e}
}

// expr returns the normal form of a multiple.
func (t term) expr() api.Expr {
	switch {
	case t.rest.Op == 0:
		return number(t.factor)
	case isOne(t.factor):
		return t.rest
	}
	factors := []api.Expr{number(t.factor)}
	return api.Expr{Op: api.OpProduct, Args: append(factors, flat(api.OpProduct, []api.Expr{t.rest})...)}
}

// compareTerms compares multiples by what they are multiples of; numbers stand last.
func compareTerms(a, b term) int {
	switch {
	case a.rest.Op == 0 && b.rest.Op == 0:
		return 0
	case a.rest.Op == 0:
		return 1
	case b.rest.Op == 0:
		return -1
	}
	return compare(a.rest, b.rest)
}

// product returns the normal form of a product of normal forms.
func (n *normalizer) product(args []api.Expr) api.Expr {
	factor := rational.Of(1)
	var powers []power
	for _, a := range flat(api.OpProduct, args) {
		if a.Op == api.OpNumber {
			factor = rational.Mul(factor, a.C)
		} else {
			powers = append(powers, powerOf(a))
		}
	}
	l := n.powers(powers)
	switch {
	case rational.Sign(factor) == 0 || len(l) == 0:
		return number(factor)
	case len(l) == 1 && l[0].Op == api.OpSum:
		return multiple(factor, l[0].Args)
	}
	return term{factor, joined(api.OpProduct, l)}.expr()
}

// powers returns the product of powers as a list in the order of the bases, of which each
// one occurs once.
func (n *normalizer) powers(powers []power) []api.Expr {
	slices.SortStableFunc(powers, func(a, b power) int { return compare(a.base, b.base) })
	var l []api.Expr
	for i := 0; i < len(powers); {
		total := powers[i]
		for i++; i < len(powers) && compare(powers[i].base, total.base) == 0; i++ {
			total.exp += powers[i].exp
		}
		n.check(total.exp)
		if total.exp != 0 {
			l = append(l, total.expr())
		}
	}
	return l
}

// multiple returns the normal form of the multiple of a sum.
func multiple(factor api.Rat, args []api.Expr) api.Expr {
	var l []api.Expr
	for _, a := range args {
		t := termOf(a)
		t.factor = rational.Mul(factor, t.factor)
		l = append(l, t.expr())
	}
	return sum(l)
}

// powerOf returns a normal form as a power.
func powerOf(e api.Expr) power {
	if e.Op == api.OpPower {
		return power{e.Args[0], e.N[0]}
	}
	return power{e, 1}
}

// expr returns the power as an expression.
func (p power) expr() api.Expr {
	if p.exp == 1 {
		return p.base
	}
	return api.Expr{Op: api.OpPower, N: []int{p.exp}, Args: []api.Expr{p.base}}
}

// power returns the normal form of a power of a normal form.
func (n *normalizer) power(e api.Expr, exp int) api.Expr {
	switch {
	case exp == 0:
		return number(rational.Of(1))
	case exp == 1:
		return e
	case e.Op == api.OpPower:
		return n.power(e.Args[0], n.check(exp*e.N[0]))
	case e.Op == api.OpProduct:
		var l []api.Expr
		for _, x := range e.Args {
			l = append(l, n.power(x, exp))
		}
		return n.product(l)
	case e.Op == api.OpNumber && (exp > 0 || rational.Sign(e.C) != 0):
		return n.number(e.C, exp)
	}
	return power{e, exp}.expr()
}

// number returns the power of a number.
func (n *normalizer) number(c api.Rat, exp int) api.Expr {
	x, code := rational.Pow(c, exp)
	if code != api.OK {
		n.isLarge = true
	}
	return number(x)
}

// check returns an exponent, or 0 if it is too great.
func (n *normalizer) check(exp int) int {
	if exp < -api.MaxPower || exp > api.MaxPower {
		n.isLarge = true
		return 0
	}
	return exp
}

// isOne reports whether c is 1.
func isOne(c api.Rat) bool {
	return rational.Cmp(c, rational.Of(1)) == 0
}
