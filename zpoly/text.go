package zpoly

import (
	"slices"
	"strconv"
	"strings"

	"halfplane/api"
	"halfplane/bigint"
)

// Format returns f as a sum of terms.
func Format(f api.ZPoly) string {
	f = trim(f)
	if len(f) == 0 {
		return "0"
	}
	var b strings.Builder
	for i, c := range slices.Backward(f) {
		sign := bigint.Sign(c)
		switch {
		case sign == 0:
			continue
		case i == degree(f) && sign < 0:
			b.WriteString("-")
		case sign < 0:
			b.WriteString(" - ")
		case i < degree(f):
			b.WriteString(" + ")
		}
		b.WriteString(formatTerm(bigint.Abs(c), i))
	}
	return b.String()
}

// formatTerm returns c * x^n; c is positive.
func formatTerm(c api.Int, n int) string {
	if n == 0 {
		return bigint.Format(c)
	}
	s := "x"
	if n > 1 {
		s = "x^" + strconv.Itoa(n)
	}
	if isOne(c) {
		return s
	}
	return bigint.Format(c) + "*" + s
}

// term is Coef * x^Exp. A text may contain any exponent, before it is known that
// it is too large.
type term struct{ coef, exp api.Int }

// Parse returns the polynomial whose form is s.
func Parse(s string) (api.ZPoly, api.Errno) {
	if s == "0" {
		return nil, api.OK
	}
	r := reader{rest: s}
	terms, ok := r.sum()
	if !ok {
		return nil, api.ErrSyntax
	}
	n, ok := bigint.Small(terms[0].exp)
	if !ok || n > api.MaxDegree {
		return nil, api.ErrLarge
	}
	f := make(api.ZPoly, n+1)
	for _, t := range terms {
		i, _ := bigint.Small(t.exp)
		f[i] = t.coef
	}
	return f, api.OK
}

// reader reads a text from its beginning.
type reader struct{ rest string }

// skip reads the text s, and reports whether it is there.
func (r *reader) skip(s string) bool {
	rest, ok := strings.CutPrefix(r.rest, s)
	r.rest = rest
	return ok
}

// sum reads all of the text: terms with descending exponents.
func (r *reader) sum() ([]term, bool) {
	var l []term
	neg := r.skip("-")
	for {
		t, ok := r.term()
		if !ok || len(l) > 0 && bigint.Cmp(l[len(l)-1].exp, t.exp) <= 0 {
			return nil, false
		}
		t.coef.Neg = neg
		l = append(l, t)
		switch {
		case r.rest == "":
			return l, true
		case r.skip(" + "):
			neg = false
		case r.skip(" - "):
			neg = true
		default:
			return nil, false
		}
	}
}

// term reads a term without its sign.
func (r *reader) term() (term, bool) {
	t := term{coef: bigint.Of(1)}
	if !r.skip("x") {
		coef, ok := r.number()
		if !ok {
			return term{}, false
		}
		t.coef = coef
		if !r.skip("*x") {
			return t, true
		}
		if isOne(coef) {
			return term{}, false
		}
	}
	t.exp = bigint.Of(1)
	if r.skip("^") {
		exp, ok := r.number()
		if !ok || isOne(exp) {
			return term{}, false
		}
		t.exp = exp
	}
	return t, true
}

// number reads the decimal form of a positive number.
func (r *reader) number() (api.Int, bool) {
	n := 0
	for n < len(r.rest) && '0' <= r.rest[n] && r.rest[n] <= '9' {
		n++
	}
	a, e := bigint.Parse(r.rest[:n])
	r.rest = r.rest[n:]
	return a, e == api.OK && bigint.Sign(a) > 0
}
