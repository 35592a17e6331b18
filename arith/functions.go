package arith

import (
	"halfplane/api"
	"halfplane/bigint"
)

// Phi returns the number of residues modulo n that are coprime to n.
func Phi(n int) (int, api.Errno) {
	factors, e := Factor(n)
	if e != api.OK {
		return 0, e
	}
	phi := n
	for _, f := range factors {
		phi -= phi / f.Prime
	}
	return phi, api.OK
}

// Psi returns n times the product of 1 + 1/p over the primes p that divide n.
func Psi(n int) (int, api.Errno) {
	factors, e := Factor(n)
	if e != api.OK {
		return 0, e
	}
	psi := n
	for _, f := range factors {
		psi += psi / f.Prime
	}
	return psi, api.OK
}

// Mobius returns the Moebius function of n.
func Mobius(n int) (int, api.Errno) {
	factors, e := Factor(n)
	if e != api.OK {
		return 0, e
	}
	mobius := 1
	for _, f := range factors {
		if f.Exp > 1 {
			return 0, api.OK
		}
		mobius = -mobius
	}
	return mobius, api.OK
}

// Sigma returns the sum of d^k over the divisors d of n.
func Sigma(k, n int) (api.Int, api.Errno) {
	factors, e := Factor(n)
	if e != api.OK {
		return api.Int{}, e
	}
	if k < 0 || k > 64 {
		return api.Int{}, api.ErrRange
	}
	one := bigint.Of(1)
	sigma := bigint.Of(1)
	for _, f := range factors {
		power, _ := bigint.Pow(bigint.Of(f.Prime), k)
		sum := one
		for range f.Exp {
			sum = bigint.Add(bigint.Mul(sum, power), one)
		}
		sigma = bigint.Mul(sigma, sum)
	}
	return sigma, api.OK
}

// Fundamental returns the fundamental discriminant disc and f > 0 with d = disc * f^2.
func Fundamental(d int) (disc, f int, e api.Errno) {
	if d == 0 || absolute(d) > api.MaxArith {
		return 0, 0, api.ErrRange
	}
	if residue(d, 4) >= 2 {
		return 0, 0, api.ErrDisc
	}
	factors, _ := Factor(int(absolute(d)))
	disc, f = 1, 1
	if d < 0 {
		disc = -1
	}
	for _, p := range factors {
		if p.Exp%2 == 1 {
			disc *= p.Prime
		}
		for range p.Exp / 2 {
			f *= p.Prime
		}
	}
	if residue(disc, 4) != 1 {
		// Then f is even, because d is 0 modulo 4.
		disc *= 4
		f /= 2
	}
	return disc, f, api.OK
}

// Kronecker returns the Kronecker symbol (a/n).
func Kronecker(a, n int) int {
	if n == 0 {
		if a == 1 || a == -1 {
			return 1
		}
		return 0
	}
	if a%2 == 0 && n%2 == 0 {
		return 0
	}
	sign := 1
	if n < 0 && a < 0 {
		sign = -1
	}
	odd := absolute(n)
	for odd%2 == 0 {
		odd /= 2
		sign *= symbolOfTwo(uint64(a))
	}
	x := absolute(a)
	if a < 0 && odd%4 == 3 {
		sign = -sign
	}
	return sign * jacobi(x%odd, odd)
}

// symbolOfTwo returns (2/n) and (n/2), which are equal, for odd n; only the
// residue of n modulo 8 matters.
func symbolOfTwo(n uint64) int {
	if n%8 == 1 || n%8 == 7 {
		return 1
	}
	return -1
}

// jacobi returns (x/n) for odd n, by quadratic reciprocity.
func jacobi(x, n uint64) int {
	sign := 1
	for x != 0 {
		for x%2 == 0 {
			x /= 2
			sign *= symbolOfTwo(n)
		}
		if x%4 == 3 && n%4 == 3 {
			sign = -sign
		}
		x, n = n%x, x
	}
	if n == 1 {
		return sign
	}
	return 0
}
