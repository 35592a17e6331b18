package factor

import (
	"slices"

	"halfplane/api"
	"halfplane/bigint"
	"halfplane/zpoly"
)

// margin is the number of binary digits by which the modulus of lifted factors
// exceeds the bound of the coefficients of true ones. Fewer than one of 2^32
// combinations that are not true factors have a second coefficient in the bound.
const margin = 34

// irreducibleFactors returns the irreducible factors of f, which is primitive,
// square-free and of degree at least 1.
func irreducibleFactors(f api.ZPoly) []api.ZPoly {
	best, degrees := chooseReduction(f)
	// A polynomial for which no prime is admissible would be beyond this method; none
	// within the limits is known.
	if degrees.isTrivial(zpoly.Degree(f)) || len(best.factors) == 0 {
		return []api.ZPoly{zpoly.Normal(f)}
	}
	return liftAndCombine(f, best, degrees)
}

// reduction is the factorization of a polynomial modulo an admissible prime.
type reduction struct {
	prime   int
	factors []api.FPoly
}

// chooseReduction returns the reduction with the fewest factors for some primes, and
// the degrees of factors over the integers that these primes allow. It looks at
// more primes if there are many factors to be combined.
func chooseReduction(f api.ZPoly) (reduction, degreeSet) {
	var best reduction
	degrees, tried := allDegrees(), 0
	for p := 2; p <= api.MaxPrime && !degrees.isTrivial(zpoly.Degree(f)); p++ {
		if !isModulus(p) {
			continue
		}
		factors, ok := factorsModulo(f, p)
		if !ok {
			continue
		}
		tried++
		degrees &= sums(degreesOf(factors))
		if tried == 1 || len(factors) < len(best.factors) {
			best = reduction{p, factors}
		}
		if tried >= len(best.factors) {
			break
		}
	}
	return best, degrees
}

// liftAndCombine lifts the factors of f modulo a prime to a power of it that is
// greater than all coefficients of divisors of f, and returns the irreducible
// factors of f, which are the products of some of them, times an integer.
func liftAndCombine(f api.ZPoly, start reduction, degrees degreeSet) []api.ZPoly {
	exp, modulus := powerAbove(start.prime, bigint.Bits(bound(f))+margin)
	left := describe(lift(f, start.prime, exp, start.factors), f[len(f)-1], modulus)
	lead := f[len(f)-1]
	var found []api.ZPoly
	var chosen []int
	// choose tries all combinations of the chosen factors with count further ones,
	// from the one with the index from on, until one is a true factor.
	var choose func(from, count, degree int, second uint64) bool
	choose = func(from, count, degree int, second uint64) bool {
		if count == 0 {
			// Other combinations are excluded without a multiplication.
			if !degrees.has(degree) || !isNearZero(second) {
				return false
			}
			g := combination(left, chosen, lead, modulus)
			rest, e := zpoly.Divide(f, g)
			if e != api.OK {
				return false
			}
			found = append(found, g)
			f = rest
			return true
		}
		for i := from; i+count <= len(left); i++ {
			chosen = append(chosen, i)
			if choose(i+1, count-1, degree+left[i].degree, second+left[i].second) {
				return true
			}
			chosen = chosen[:len(chosen)-1]
		}
		return false
	}
	for count := 1; 2*count <= len(left); {
		chosen = nil
		if !choose(0, count, 0, 0) {
			count++
			continue
		}
		left = without(left, chosen)
	}
	return append(found, zpoly.Normal(f))
}

// powerAbove returns the first power of p with more than n binary digits, and its exponent.
func powerAbove(p, n int) (int, api.Int) {
	exp, a := 1, bigint.Of(p)
	for bigint.Bits(a) <= n {
		a = bigint.Mul(a, bigint.Of(p))
		exp++
	}
	return exp, a
}

// lifted is a monic factor modulo some number, its degree, and its second coefficient
// times a given leading coefficient: the remainder divided by the modulus, of which
// 64 binary digits are kept. For a product these numbers are added modulo 2^64.
type lifted struct {
	poly   api.ZPoly
	degree int
	second uint64
}

// describe returns the factors with their degrees and second coefficients.
func describe(factors []api.ZPoly, lead, modulus api.Int) []lifted {
	var l []lifted
	unit := api.Int{Mag: []uint32{0, 0, 1}}
	for _, g := range factors {
		n := len(g) - 1
		_, r, _ := bigint.DivMod(bigint.Mul(g[n-1], lead), modulus)
		q, _, _ := bigint.DivMod(bigint.Mul(r, unit), modulus)
		second := uint64(0)
		for i, digit := range q.Mag {
			second |= uint64(digit) << (32 * i)
		}
		l = append(l, lifted{g, n, second})
	}
	return l
}

// isNearZero reports whether a sum of second coefficients may belong to one that is
// in the bound: less than 2^-34 of the modulus, apart from errors of the sum that are less
// than the number of factors.
func isNearZero(second uint64) bool {
	const tolerance = 1<<(64-margin) + api.MaxFactor
	return second+tolerance <= 2*tolerance
}

// combination returns the primitive polynomial that belongs to the product of the
// chosen factors and the leading coefficient, with remainders that are as small as possible.
func combination(l []lifted, chosen []int, lead, modulus api.Int) api.ZPoly {
	g := api.ZPoly{lead}
	for _, i := range chosen {
		g = modulo(zpoly.Mul(g, l[i].poly), modulus)
	}
	for i, c := range g {
		if bigint.Cmp(bigint.Add(c, c), modulus) > 0 {
			g[i] = bigint.Sub(c, modulus)
		}
	}
	return zpoly.Primitive(g)
}

// without returns the factors other than the chosen ones.
func without(l []lifted, chosen []int) []lifted {
	var rest []lifted
	for i, x := range l {
		if !slices.Contains(chosen, i) {
			rest = append(rest, x)
		}
	}
	return rest
}
