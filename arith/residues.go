package arith

import (
	"halfplane/api"
)

// Inverse returns the residue x modulo m with a * x = 1 modulo m.
func Inverse(a, m int) (int, api.Errno) {
	if !inRange(m) {
		return 0, api.ErrRange
	}
	g, x := divisorAndFactor(residue(a, m), m)
	if g != 1 {
		return 0, api.ErrCoprime
	}
	return x, api.OK
}

// PowMod returns the residue of a^n modulo m.
func PowMod(a, n, m int) (int, api.Errno) {
	if !inRange(m) || n < 0 {
		return 0, api.ErrRange
	}
	return powMod(residue(a, m), n, m), api.OK
}

// powMod returns the residue of a^n modulo m, for a residue a and n >= 0.
func powMod(a, n, m int) int {
	power := 1 % m
	for ; n > 0; n /= 2 {
		if n%2 == 1 {
			power = power * a % m
		}
		a = a * a % m
	}
	return power
}

// Crt returns the congruence that is equivalent to all of l together.
func Crt(l []api.Congruence) (api.Congruence, api.Errno) {
	all := api.Congruence{R: 0, M: 1}
	for _, next := range l {
		var e api.Errno
		if all, e = combine(all, next); e != api.OK {
			return api.Congruence{}, e
		}
	}
	return all, api.OK
}

// combine returns the congruence that is equivalent to a and b together, where
// a is a result of combine, or 0 modulo 1.
func combine(a, b api.Congruence) (api.Congruence, api.Errno) {
	if !inRange(b.M) {
		return api.Congruence{}, api.ErrRange
	}
	// x = a.R + a.M * k, where k is a solution of a.M * k = gap modulo b.M.
	g, factor := divisorAndFactor(a.M, b.M)
	gap := residue(residue(b.R, b.M)-a.R, b.M)
	if gap%g != 0 {
		return api.Congruence{}, api.ErrDiffer
	}
	period := b.M / g
	if a.M*period > api.MaxArith {
		return api.Congruence{}, api.ErrLarge
	}
	k := gap / g * factor % period
	return api.Congruence{R: a.R + a.M*k, M: a.M * period}, api.OK
}

// Order returns the least n > 0 with a^n = 1 modulo m.
func Order(a, m int) (int, api.Errno) {
	if _, e := Inverse(a, m); e != api.OK {
		return 0, e
	}
	phi, _ := Phi(m)
	factors, _ := Factor(phi)
	order := phi
	base := residue(a, m)
	for _, f := range factors {
		for range f.Exp {
			if powMod(base, order/f.Prime, m) != 1%m {
				break
			}
			order /= f.Prime
		}
	}
	return order, api.OK
}

// checkPrime returns the error of a number that must be a prime.
func checkPrime(p int) api.Errno {
	if p < 2 || p > api.MaxArith {
		return api.ErrRange
	}
	if leastPrime(p) != p {
		return api.ErrPrime
	}
	return api.OK
}

// PrimitiveRoot returns the least positive integer whose order modulo p is p - 1.
func PrimitiveRoot(p int) (int, api.Errno) {
	if e := checkPrime(p); e != api.OK {
		return 0, e
	}
	factors, _ := Factor(p - 1)
	root := 1
	for !isPrimitive(root, p, factors) {
		root++
	}
	return root, api.OK
}

// isPrimitive reports whether the order of the residue a, which is not 0,
// modulo p is p - 1, whose prime factors are given.
func isPrimitive(a, p int, factors []api.PrimePower) bool {
	for _, f := range factors {
		if powMod(a, (p-1)/f.Prime, p) == 1 {
			return false
		}
	}
	return true
}

// SqrtMod returns the least residue x modulo p with x^2 = a modulo p, and whether there is one.
func SqrtMod(a, p int) (root int, ok bool, e api.Errno) {
	if e := checkPrime(p); e != api.OK {
		return 0, false, e
	}
	square := residue(a, p)
	if p == 2 || square == 0 {
		return square, true, api.OK
	}
	if Kronecker(square, p) != 1 {
		return 0, false, api.OK
	}
	root = tonelli(square, p)
	return min(root, p-root), true, api.OK
}

// tonelli returns a square root of a square, not 0, modulo an odd prime p, by
// the algorithm of Tonelli and Shanks.
func tonelli(square, p int) int {
	odd, twos := p-1, 0
	for odd%2 == 0 {
		odd /= 2
		twos++
	}
	other := 2
	for Kronecker(other, p) != -1 {
		other++
	}
	// root^2 = square * rest, where the order of rest is a power of 2 that
	// decreases, and that of unit is a greater one, 2^twos.
	unit := powMod(other, odd, p)
	root := powMod(square, (odd+1)/2, p)
	rest := powMod(square, odd, p)
	for rest != 1 {
		log := 0
		for x := rest; x != 1; x = x * x % p {
			log++
		}
		factor := powMod(unit, 1<<uint(twos-log-1), p)
		unit = factor * factor % p
		twos = log
		root = root * factor % p
		rest = rest * unit % p
	}
	return root
}
