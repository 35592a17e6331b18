package factor

import (
	"slices"

	"halfplane/api"
	"halfplane/arith"
	"halfplane/bigint"
	"halfplane/fpoly"
	"halfplane/zpoly"
)

// proofPrimes is the limit of the primes whose patterns are used in a proof.
const proofPrimes = 200

// isModulus reports whether p is a prime for which layer 4 has polynomials.
func isModulus(p int) bool {
	if p > api.MaxPrime {
		return false
	}
	prime, _ := arith.IsPrime(p)
	return prime
}

// factorsModulo returns the monic irreducible factors of f modulo the prime p, and
// whether p is admissible for f.
func factorsModulo(f api.ZPoly, p int) ([]api.FPoly, bool) {
	residues := make(api.FPoly, len(f))
	modulus := bigint.Of(p)
	for i, c := range f {
		_, r, _ := bigint.DivMod(c, modulus)
		residues[i], _ = bigint.Small(r)
	}
	if residues[len(f)-1] == 0 {
		return nil, false
	}
	_, l, _ := fpoly.Factor(p, residues)
	var factors []api.FPoly
	for _, x := range l {
		if x.Exp > 1 {
			return nil, false
		}
		factors = append(factors, x.Poly)
	}
	return factors, true
}

// degreesModulo returns the degrees of the factors of f modulo p.
func degreesModulo(f api.ZPoly, p int) ([]int, api.Errno) {
	if !isModulus(p) {
		return nil, api.ErrPrime
	}
	factors, ok := factorsModulo(f, p)
	if !ok {
		return nil, api.ErrForm
	}
	return degreesOf(factors), api.OK
}

// degreesOf returns the degrees of factors, which are in the order of layer 4, so that they ascend.
func degreesOf(factors []api.FPoly) []int {
	var degrees []int
	for _, g := range factors {
		degrees = append(degrees, len(g)-1)
	}
	return degrees
}

// degreeSet is a set of degrees from 0 to MaxFactor: bit i stands for the degree i.
type degreeSet uint64

// has reports whether n is in the set.
func (s degreeSet) has(n int) bool {
	return s>>n&1 == 1
}

// isTrivial reports whether the set has no degree from 1 to n-1.
func (s degreeSet) isTrivial(n int) bool {
	return s&(1<<n-2) == 0
}

// allDegrees returns the set of all degrees.
func allDegrees() degreeSet {
	return 1<<(api.MaxFactor+1) - 1
}

// sums returns the set of the sums of some of the degrees.
func sums(degrees []int) degreeSet {
	s := degreeSet(1)
	for _, d := range degrees {
		s |= s << d
	}
	return s
}

// prove returns the patterns of the first admissible primes that prove that f is
// irreducible, and whether there are enough of them; the degree of f is at least 1.
func prove(f api.ZPoly) ([]api.Pattern, bool) {
	n := zpoly.Degree(f)
	possible := allDegrees()
	var l []api.Pattern
	for p := 2; p < proofPrimes && !possible.isTrivial(n); p++ {
		degrees, e := degreesModulo(f, p)
		if e != api.OK {
			continue
		}
		l = append(l, api.Pattern{Prime: p, Degrees: degrees})
		possible &= sums(degrees)
	}
	if !possible.isTrivial(n) {
		return nil, false
	}
	return l, true
}

// proves reports whether the patterns are those of f and prove that it is
// irreducible; the degree of f is at least 1.
func proves(f api.ZPoly, l []api.Pattern) bool {
	possible := allDegrees()
	for _, x := range l {
		degrees, e := degreesModulo(f, x.Prime)
		if e != api.OK || !slices.Equal(degrees, x.Degrees) {
			return false
		}
		possible &= sums(degrees)
	}
	return possible.isTrivial(zpoly.Degree(f))
}
