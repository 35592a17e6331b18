// Package fpoly is layer 4: polynomials modulo a prime, and their factors.
//
// The exported functions check the prime and normalize their arguments; the
// other functions require a prime and normalized polynomials, return new memory
// and do not change their arguments.
package fpoly

import (
	"halfplane/api"
	"halfplane/arith"
	"halfplane/bigint"
)

// Normal returns f, normalized.
func Normal(p int, f api.FPoly) (api.FPoly, api.Errno) {
	if e := checkModulus(p); e != api.OK {
		return nil, e
	}
	return normal(p, f), api.OK
}

// Add returns f + g.
func Add(p int, f, g api.FPoly) (api.FPoly, api.Errno) {
	if e := checkModulus(p); e != api.OK {
		return nil, e
	}
	return addMultiple(p, normal(p, f), normal(p, g), 1), api.OK
}

// Sub returns f - g.
func Sub(p int, f, g api.FPoly) (api.FPoly, api.Errno) {
	if e := checkModulus(p); e != api.OK {
		return nil, e
	}
	return difference(p, normal(p, f), normal(p, g)), api.OK
}

// Mul returns f * g.
func Mul(p int, f, g api.FPoly) (api.FPoly, api.Errno) {
	if e := checkModulus(p); e != api.OK {
		return nil, e
	}
	return product(p, normal(p, f), normal(p, g)), api.OK
}

// DivMod returns q and r with f = q * g + r, where the degree of r is less than that of g.
func DivMod(p int, f, g api.FPoly) (q, r api.FPoly, e api.Errno) {
	if e := checkModulus(p); e != api.OK {
		return nil, nil, e
	}
	divisor := normal(p, g)
	if len(divisor) == 0 {
		return nil, nil, api.ErrZero
	}
	q, r = divide(p, normal(p, f), divisor)
	return q, r, api.OK
}

// Gcd returns the monic greatest common divisor, or 0 if f and g are 0.
func Gcd(p int, f, g api.FPoly) (api.FPoly, api.Errno) {
	if e := checkModulus(p); e != api.OK {
		return nil, e
	}
	return divisor(p, normal(p, f), normal(p, g)), api.OK
}

// Xgcd returns the greatest common divisor d with u * f + v * g = d and the u of least degree (if g is not 0).
func Xgcd(p int, f, g api.FPoly) (d, u, v api.FPoly, e api.Errno) {
	if e := checkModulus(p); e != api.OK {
		return nil, nil, nil, e
	}
	d, u, v = divisorAndFactors(p, normal(p, f), normal(p, g))
	return d, u, v, api.OK
}

// PowMod returns the remainder of f to the power n modulo m.
func PowMod(p int, f api.FPoly, n api.Int, m api.FPoly) (api.FPoly, api.Errno) {
	if e := checkModulus(p); e != api.OK {
		return nil, e
	}
	modulus := normal(p, m)
	if len(modulus) == 0 {
		return nil, api.ErrZero
	}
	if bigint.Sign(n) < 0 {
		return nil, api.ErrRange
	}
	return power(p, normal(p, f), n, modulus), api.OK
}

// Eval returns the residue f(x).
func Eval(p int, f api.FPoly, x int) (int, api.Errno) {
	if e := checkModulus(p); e != api.OK {
		return 0, e
	}
	at := residue(p, x)
	value := 0
	for c := range downwards(f) {
		value = (value*at + residue(p, c)) % p
	}
	return value, api.OK
}

// Derivative returns the derivative of f.
func Derivative(p int, f api.FPoly) (api.FPoly, api.Errno) {
	if e := checkModulus(p); e != api.OK {
		return nil, e
	}
	return derivative(p, normal(p, f)), api.OK
}

// checkModulus returns ErrPrime if p is not a prime from 2 to MaxPrime.
func checkModulus(p int) api.Errno {
	if p > api.MaxPrime {
		return api.ErrPrime
	}
	if prime, _ := arith.IsPrime(p); !prime {
		return api.ErrPrime
	}
	return api.OK
}
