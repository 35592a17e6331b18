package zpoly

import (
	"halfplane/api"
	"halfplane/bigint"
)

// testPrime is the prime modulo which polynomials are compared; products of two
// residues are machine words.
const testPrime = 1<<31 - 1

// areCoprime reports whether f and g, which are not 0, have no common root modulo
// the prime. If they have none there, and neither loses its leading coefficient,
// they have none at all; that is the most frequent case, and found much faster in
// this way. Otherwise nothing is known.
func areCoprime(f, g api.ZPoly) bool {
	a, b := residues(f), residues(g)
	if len(a) < len(f) || len(b) < len(g) {
		return false
	}
	for len(b) > 0 {
		a, b = b, remainderOfResidues(a, b)
	}
	return len(a) == 1
}

// residues returns the coefficients of f modulo the prime, without leading zeros.
func residues(f api.ZPoly) []uint64 {
	l := make([]uint64, len(f))
	modulus := bigint.Of(testPrime)
	for i, c := range f {
		_, r, _ := bigint.DivMod(c, modulus)
		n, _ := bigint.Small(r)
		l[i] = uint64(n)
	}
	return withoutZeros(l)
}

// withoutZeros returns l without leading zeros; it shares the memory of l.
func withoutZeros(l []uint64) []uint64 {
	n := len(l)
	for n > 0 && l[n-1] == 0 {
		n--
	}
	return l[:n]
}

// remainderOfResidues replaces f by its remainder modulo g, which is not 0.
func remainderOfResidues(f, g []uint64) []uint64 {
	n := len(g) - 1
	inverse := inverseOfResidue(g[n])
	for len(f) > n {
		shift := len(f) - 1 - n
		factor := testPrime - f[len(f)-1]*inverse%testPrime
		for i, c := range g {
			f[shift+i] = (f[shift+i] + factor*c) % testPrime
		}
		f = withoutZeros(f)
	}
	return f
}

// inverseOfResidue returns the inverse of a by Fermat's theorem.
func inverseOfResidue(a uint64) uint64 {
	inverse := uint64(1)
	for n := testPrime - 2; n > 0; n /= 2 {
		if n%2 == 1 {
			inverse = inverse * a % testPrime
		}
		a = a * a % testPrime
	}
	return inverse
}
