package expr

import (
	"halfplane/api"
	"halfplane/bigint"
	"halfplane/rational"
)

// maxOpen is the greatest number of brackets that may be open.
const maxOpen = 64

// reader reads expressions.
type reader struct {
	tokens
	open int
}

// Parse reads an expression.
func Parse(s string) (e api.Expr, offset int, code api.Errno) {
	if len(s) > api.MaxText {
		return api.Expr{}, 0, api.ErrLarge
	}
	defer func() {
		if x := recover(); x != nil {
			stopped, ok := x.(stop)
			if !ok {
				panic(x)
			}
			e, offset, code = api.Expr{}, stopped.offset, stopped.code
		}
	}()
	r := &reader{tokens: tokens{text: s}}
	e = r.whole()
	if code := Check(e); code != api.OK {
		return api.Expr{}, 0, code
	}
	return e, 0, api.OK
}

// whole reads the whole text.
func (r *reader) whole() api.Expr {
	r.next()
	e := r.sum()
	if r.at < len(r.text) {
		r.fail()
	}
	return e
}

// sum reads a sum.
func (r *reader) sum() api.Expr {
	l := []api.Expr{r.product(r.accept("-"))}
	for {
		switch {
		case r.accept("+"):
			l = append(l, r.product(false))
		case r.accept("-"):
			l = append(l, r.product(true))
		default:
			return joined(api.OpSum, l)
		}
	}
}

// product reads a product, and negates it if it stands behind a minus sign.
func (r *reader) product(negative bool) api.Expr {
	isNumber := r.isNumber()
	l := []api.Expr{r.power()}
	for r.accept("*") {
		l = append(l, r.power())
	}
	if negative && isNumber && l[0].Op == api.OpNumber {
		l[0] = number(rational.Neg(l[0].C))
	} else if negative {
		l = append([]api.Expr{number(rational.Of(-1))}, l...)
	}
	return joined(api.OpProduct, l)
}

// power reads a power.
func (r *reader) power() api.Expr {
	a := r.atom()
	if r.accept("^") {
		return api.Expr{Op: api.OpPower, N: []int{r.integer()}, Args: []api.Expr{a}}
	}
	return a
}

// atom reads an atom.
func (r *reader) atom() api.Expr {
	if r.isNumber() {
		return r.fraction()
	}
	if r.token() == "(" {
		r.openBracket()
		e := r.sum()
		r.closeBracket()
		return e
	}
	return r.word()
}

// word reads an atom that begins with a word.
func (r *reader) word() api.Expr {
	text, offset := r.token(), r.at
	op, ok := opOf(text)
	if !ok && !isEisenstein(text) && !IsName(text) {
		r.fail()
	}
	r.next()
	switch {
	case ok:
		return r.operation(op)
	case isEisenstein(text):
		return api.Expr{Op: api.OpE, N: []int{small(withoutZeros(text[1:]), offset+1)}}
	}
	return api.Expr{Op: api.OpName, Name: text}
}

// fraction reads a number.
func (r *reader) fraction() api.Expr {
	num, den := r.natural(), bigint.Of(1)
	if r.accept("/") {
		offset := r.at
		den = r.natural()
		if bigint.Sign(den) == 0 {
			panic(stop{offset, api.ErrSyntax})
		}
	}
	c, _ := rational.Make(num, den)
	return number(c)
}

// operation reads what stands behind the word of an operation.
func (r *reader) operation(op int) api.Expr {
	e := api.Expr{Op: op}
	switch op {
	case api.OpDelta, api.OpJ:
	case api.OpG, api.OpNewform:
		r.openBracket()
		e.N = r.integers()
		r.closeBracket()
	case api.OpEta, api.OpTheta:
		r.openBracket()
		e.N = []int{r.integer()}
		r.closeBracket()
		r.expect("[")
		e.N = append(e.N, r.integers()...)
		r.expect("]")
	default:
		r.openBracket()
		e.N, e.Args = r.operands(op)
		r.closeBracket()
	}
	return e
}

// operands reads the integer, if there is one, and the arguments of an operation.
func (r *reader) operands(op int) (n []int, args []api.Expr) {
	s, _ := shapeOf(op)
	for range s.mostIntegers {
		n = append(n, r.integer())
		r.expect(",")
	}
	for i := range s.mostArgs {
		if i > 0 {
			r.expect(",")
		}
		args = append(args, r.sum())
	}
	return n, args
}

// openBracket reads an opening bracket.
func (r *reader) openBracket() {
	if r.token() != "(" {
		r.fail()
	}
	if r.open == maxOpen {
		panic(stop{r.at, api.ErrLarge})
	}
	r.open++
	r.next()
}

// closeBracket reads a closing bracket.
func (r *reader) closeBracket() {
	r.expect(")")
	r.open--
}

// number returns the expression of a number.
func number(c api.Rat) api.Expr {
	return api.Expr{Op: api.OpNumber, C: c}
}

// joined returns the sum or the product of expressions; one stands for itself.
func joined(op int, l []api.Expr) api.Expr {
	if len(l) == 1 {
		return l[0]
	}
	return api.Expr{Op: op, Args: l}
}
