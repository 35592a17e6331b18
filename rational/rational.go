// Package rational is layer 2: exact arithmetic with fractions.
package rational

import (
	"strings"

	"halfplane/api"
	"halfplane/bigint"
)

// Make returns n/d.
func Make(n, d api.Int) (api.Rat, api.Errno) {
	if bigint.Sign(d) == 0 {
		return api.Rat{}, api.ErrZero
	}
	return reduce(n, d), api.OK
}

// Of returns n.
func Of(n int) api.Rat {
	return api.Rat{Num: bigint.Of(n), Den: bigint.Of(1)}
}

// Whole returns a.
func Whole(a api.Int) api.Rat {
	return api.Rat{Num: bigint.Normal(a), Den: bigint.Of(1)}
}

// Normal returns a, normalized.
func Normal(a api.Rat) api.Rat {
	if bigint.Sign(a.Den) == 0 {
		return Of(0)
	}
	return reduce(a.Num, a.Den)
}

// Integer returns a as an integer, and whether it is one.
func Integer(a api.Rat) (api.Int, bool) {
	n, d := parts(a)
	q, e := bigint.Exact(n, d)
	return q, e == api.OK
}

// Sign returns -1, 0 or 1 if a is negative, zero or positive.
func Sign(a api.Rat) int {
	return bigint.Sign(a.Num) * bigint.Sign(a.Den)
}

// Cmp returns -1, 0 or 1 if a is less than, equal to or greater than b.
func Cmp(a, b api.Rat) int {
	an, ad := parts(a)
	bn, bd := parts(b)
	return bigint.Cmp(times(an, bd), times(bn, ad))
}

// Neg returns -a.
func Neg(a api.Rat) api.Rat {
	return Normal(api.Rat{Num: bigint.Neg(a.Num), Den: a.Den})
}

// Abs returns |a|.
func Abs(a api.Rat) api.Rat {
	if Sign(a) < 0 {
		return Neg(a)
	}
	return Normal(a)
}

// Add returns a + b.
func Add(a, b api.Rat) api.Rat {
	an, ad := parts(a)
	bn, bd := parts(b)
	if bigint.Cmp(ad, bd) == 0 {
		return reduce(bigint.Add(an, bn), ad)
	}
	return reduce(bigint.Add(times(an, bd), times(bn, ad)), times(ad, bd))
}

// Sub returns a - b.
func Sub(a, b api.Rat) api.Rat {
	return Add(a, api.Rat{Num: bigint.Neg(b.Num), Den: b.Den})
}

// Mul returns a * b.
func Mul(a, b api.Rat) api.Rat {
	an, ad := parts(a)
	bn, bd := parts(b)
	return reduce(times(an, bn), times(ad, bd))
}

// Quo returns a / b.
func Quo(a, b api.Rat) (api.Rat, api.Errno) {
	an, ad := parts(a)
	bn, bd := parts(b)
	if bigint.Sign(bn) == 0 {
		return api.Rat{}, api.ErrZero
	}
	return reduce(times(an, bd), times(ad, bn)), api.OK
}

// Pow returns a to the power n.
func Pow(a api.Rat, n int) (api.Rat, api.Errno) {
	base := Normal(a)
	if Sign(base) == 0 {
		return powerOfZero(n)
	}
	if isOne(base.Den) && isOne(bigint.Abs(base.Num)) {
		if n%2 == 0 {
			return Of(1), api.OK
		}
		return base, api.OK
	}
	if limit := api.MaxBits / Bits(base); n > limit || n < -limit {
		return api.Rat{}, api.ErrLarge
	}
	if n < 0 {
		// The reciprocal is normalized but for the sign, which reduce corrects.
		base = reduce(base.Den, base.Num)
		n = -n
	}
	num, _ := bigint.Pow(base.Num, n)
	den, _ := bigint.Pow(base.Den, n)
	return api.Rat{Num: num, Den: den}, api.OK
}

// powerOfZero returns 0 to the power n.
func powerOfZero(n int) (api.Rat, api.Errno) {
	switch {
	case n < 0:
		return api.Rat{}, api.ErrZero
	case n == 0:
		return Of(1), api.OK
	}
	return Of(0), api.OK
}

// Floor returns the greatest integer that is at most a.
func Floor(a api.Rat) api.Int {
	n, d := parts(a)
	q, _, _ := bigint.DivMod(n, d)
	return q
}

// Ceil returns the least integer that is at least a.
func Ceil(a api.Rat) api.Int {
	n, d := parts(a)
	q, _, _ := bigint.DivMod(bigint.Neg(n), d)
	return bigint.Neg(q)
}

// Bits returns the number of binary digits of the numerator or of the denominator, whichever is greater.
func Bits(a api.Rat) int {
	a = Normal(a)
	return max(bigint.Bits(a.Num), bigint.Bits(a.Den))
}

// Format returns the decimal form of a.
func Format(a api.Rat) string {
	a = Normal(a)
	if isOne(a.Den) {
		return bigint.Format(a.Num)
	}
	return bigint.Format(a.Num) + "/" + bigint.Format(a.Den)
}

// Parse returns the number whose decimal form is s.
func Parse(s string) (api.Rat, api.Errno) {
	above, below, slash := strings.Cut(s, "/")
	num, e := bigint.Parse(above)
	if e != api.OK {
		return api.Rat{}, e
	}
	if !slash {
		return Whole(num), api.OK
	}
	den, e := bigint.Parse(below)
	if e != api.OK {
		return api.Rat{}, e
	}
	if bigint.Sign(den) <= 0 || isOne(den) || !isOne(bigint.Gcd(num, den)) {
		return api.Rat{}, api.ErrSyntax
	}
	return api.Rat{Num: num, Den: den}, api.OK
}

// parts returns integers n and d > 0 with a = n/d, which may have common
// divisors and may share the memory of a.
func parts(a api.Rat) (n, d api.Int) {
	switch bigint.Sign(a.Den) {
	case 0:
		return api.Int{}, bigint.Of(1)
	case -1:
		return bigint.Neg(a.Num), bigint.Neg(a.Den)
	}
	return a.Num, a.Den
}

// reduce returns n/d in lowest terms with a positive denominator; d is not 0.
func reduce(n, d api.Int) api.Rat {
	if isOne(d) {
		return Whole(n)
	}
	g := bigint.Gcd(n, d)
	if bigint.Sign(d) < 0 {
		g = bigint.Neg(g)
	}
	if isOne(g) {
		return api.Rat{Num: bigint.Normal(n), Den: bigint.Normal(d)}
	}
	num, _ := bigint.Exact(n, g)
	den, _ := bigint.Exact(d, g)
	return api.Rat{Num: num, Den: den}
}

// times returns a * b. It is of use because most denominators are 1; then the
// result shares the memory of a factor.
func times(a, b api.Int) api.Int {
	switch {
	case isOne(a):
		return b
	case isOne(b):
		return a
	}
	return bigint.Mul(a, b)
}

// isOne reports whether a is 1.
func isOne(a api.Int) bool {
	n, ok := bigint.Small(a)
	return ok && n == 1
}
