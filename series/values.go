package series

import (
	"halfplane/api"
	"halfplane/arith"
	"halfplane/bigint"
	"halfplane/rational"
)

// end returns the precision of a valid series.
func end(a api.Series) int {
	return a.From + len(a.Coef)
}

// at returns the coefficient of q^n for an n below the precision.
func at(a api.Series, n int) api.Rat {
	if n < a.From {
		return rational.Of(0)
	}
	return rational.Normal(a.Coef[n-a.From])
}

// normalized returns a with normalized coefficients in new memory.
func normalized(a api.Series) api.Series {
	coef := make([]api.Rat, len(a.Coef))
	for i := range len(coef) {
		coef[i] = rational.Normal(a.Coef[i])
	}
	return api.Series{From: a.From, Coef: coef}
}

// stripped returns a without its leading zeros; the coefficients are normalized.
func stripped(a api.Series) api.Series {
	for len(a.Coef) > 0 && rational.Sign(a.Coef[0]) == 0 {
		a.From++
		a.Coef = a.Coef[1:]
	}
	return a
}

// cut returns a with the lesser one of its precision and prec.
func cut(a api.Series, prec int) api.Series {
	switch {
	case prec >= end(a):
		return a
	case prec <= a.From:
		return api.Series{From: prec}
	}
	return api.Series{From: a.From, Coef: a.Coef[:prec-a.From]}
}

// result returns the series with these coefficients, which are normalized and whose
// memory it keeps, as the result of a function.
func result(from int, coef []api.Rat) (api.Series, api.Errno) {
	a := stripped(cut(api.Series{From: from, Coef: coef}, api.MaxPrec))
	if a.From < -api.MaxPole {
		return api.Series{}, api.ErrRange
	}
	return a, api.OK
}

// known returns how many of count coefficients from an exponent on are below MaxPrec.
func known(from, count int) int {
	return max(0, min(count, api.MaxPrec-from))
}

// mapped returns a with each coefficient replaced by its image; the coefficients are
// normalized before and after that.
func mapped(a api.Series, image func(n int, x api.Rat) api.Rat) (api.Series, api.Errno) {
	if Check(a) != api.OK {
		return api.Series{}, api.ErrRange
	}
	b := normalized(a)
	for i := range len(b.Coef) {
		b.Coef[i] = image(b.From+i, b.Coef[i])
	}
	return stripped(b), api.OK
}

// combined returns the series whose coefficients are made of those of a and b.
func combined(a, b api.Series, sum func(x, y api.Rat) api.Rat) (api.Series, api.Errno) {
	if Check(a) != api.OK || Check(b) != api.OK {
		return api.Series{}, api.ErrRange
	}
	from, prec := min(a.From, b.From), min(end(a), end(b))
	coef := make([]api.Rat, prec-from)
	for i := range len(coef) {
		coef[i] = sum(at(a, from+i), at(b, from+i))
	}
	return stripped(api.Series{From: from, Coef: coef}), api.OK
}

// zeros returns n coefficients 0.
func zeros(n int) []api.Rat {
	coef := make([]api.Rat, n)
	for i := range n {
		coef[i] = rational.Of(0)
	}
	return coef
}

// isExponent reports whether n is an exponent or a precision of a valid series.
func isExponent(n int) bool {
	return n >= -api.MaxPole && n <= api.MaxPrec
}

// isModulus reports whether exponents may be multiplied by d or compared modulo d.
func isModulus(d int) bool {
	return d >= 1 && d <= api.MaxPrec
}

// isTwist reports whether series are twisted by the discriminant.
func isTwist(disc int) bool {
	if disc < -api.MaxTwist || disc > api.MaxTwist {
		return false
	}
	_, f, e := arith.Fundamental(disc)
	return e == api.OK && f == 1
}

// isOne reports whether a normalized coefficient is 1.
func isOne(x api.Rat) bool {
	return rational.Cmp(x, rational.Of(1)) == 0
}

// residue returns the remainder of n modulo m > 0.
func residue(n, m int) int {
	return (n%m + m) % m
}

// ceil returns the least integer that is at least n/d, for a d > 0.
func ceil(n, d int) int {
	return (n + residue(-n, d)) / d
}

// lcm returns the least common multiple of positive integers.
func lcm(a, b api.Int) api.Int {
	quotient, _ := bigint.Exact(b, bigint.Gcd(a, b))
	return bigint.Mul(a, quotient)
}
