package arith

import (
	"slices"

	"halfplane/api"
)

// IsPrime reports whether n is a prime.
func IsPrime(n int) (bool, api.Errno) {
	if n > api.MaxArith {
		return false, api.ErrRange
	}
	return n >= 2 && leastPrime(n) == n, api.OK
}

// leastPrime returns the least prime that divides n > 1.
func leastPrime(n int) int {
	switch {
	case n%2 == 0:
		return 2
	case n%3 == 0:
		return 3
	}
	// Greater primes are 1 less or 1 more than multiples of 6.
	for d := 5; d*d <= n; d += 6 {
		if n%d == 0 {
			return d
		}
		if n%(d+2) == 0 {
			return d + 2
		}
	}
	return n
}

// Primes returns the primes up to n.
func Primes(n int) ([]int, api.Errno) {
	if n > api.MaxSieve {
		return nil, api.ErrRange
	}
	var primes []int
	composite := make([]bool, max(n+1, 0))
	for d := 2; d <= n; d++ {
		if composite[d] {
			continue
		}
		primes = append(primes, d)
		for m := d * d; m <= n; m += d {
			composite[m] = true
		}
	}
	return primes, api.OK
}

// Factor returns the prime factorization of n.
func Factor(n int) ([]api.PrimePower, api.Errno) {
	if !inRange(n) {
		return nil, api.ErrRange
	}
	var factors []api.PrimePower
	rest := n
	collect := func(d int) {
		exp := 0
		for rest%d == 0 {
			rest /= d
			exp++
		}
		if exp > 0 {
			factors = append(factors, api.PrimePower{Prime: d, Exp: exp})
		}
	}
	collect(2)
	for d := 3; d*d <= rest; d += 2 {
		collect(d)
	}
	if rest > 1 {
		collect(rest)
	}
	return factors, api.OK
}

// Divisors returns the positive divisors of n.
func Divisors(n int) ([]int, api.Errno) {
	factors, e := Factor(n)
	if e != api.OK {
		return nil, e
	}
	divisors := []int{1}
	for _, f := range factors {
		before := len(divisors)
		for i := range before * f.Exp {
			divisors = append(divisors, divisors[i]*f.Prime)
		}
	}
	slices.Sort(divisors)
	return divisors, api.OK
}
