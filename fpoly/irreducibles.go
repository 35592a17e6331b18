package fpoly

import (
	"halfplane/api"
	"halfplane/arith"
	"halfplane/bigint"
)

// First returns the first monic irreducible polynomial of degree n.
func First(p, n int) (api.FPoly, api.Errno) {
	if e := checkModulus(p); e != api.OK {
		return nil, e
	}
	if n < 1 || n > 12 {
		return nil, api.ErrRange
	}
	f := make(api.FPoly, n+1)
	f[n] = 1
	if n > 1 && !hasBinomials(p, n) {
		f[1] = 1
	}
	for !irreducible(p, f) {
		f = next(p, f)
	}
	return f, api.OK
}

// hasBinomials reports whether there may be irreducible polynomials x^n - a;
// for many p there are none, and looking for them would take long.
//
// If a prime t divides n but not p-1, then a is a power b^t, and x^(n/t) - b is
// a factor. If p is 3 modulo 4 and n = 4m, then a is a square, or a = -4 b^4
// and x^(2m) + 2b x^m + 2b^2 is a factor.
func hasBinomials(p, n int) bool {
	if n%4 == 0 && p%4 == 3 {
		return false
	}
	primes, _ := arith.Factor(n)
	for _, t := range primes {
		if (p-1)%t.Prime != 0 {
			return false
		}
	}
	return true
}

// Count returns the number of monic irreducible polynomials of degree n.
func Count(p, n int) (api.Int, api.Errno) {
	if e := checkModulus(p); e != api.OK {
		return api.Int{}, e
	}
	if n < 1 || n > 64 {
		return api.Int{}, api.ErrRange
	}
	divisors, _ := arith.Divisors(n)
	total := api.Int{}
	for _, d := range divisors {
		sign, _ := arith.Mobius(d)
		power, _ := bigint.Pow(bigint.Of(p), n/d)
		total = bigint.Add(total, bigint.Mul(bigint.Of(sign), power))
	}
	count, _ := bigint.Exact(total, bigint.Of(n))
	return count, api.OK
}
