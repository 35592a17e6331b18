package theta

import (
	"math"

	"halfplane/api"
	"halfplane/rational"
)

const (
	// maxMonomials is the greatest number of monomials of a polynomial.
	maxMonomials = 60
	// maxExponent is the greatest exponent of a variable.
	maxExponent = 6
)

// exponents are those of a monomial, with zeros for variables that do not exist.
type exponents [api.MaxRank]int

// polynomial maps exponents to coefficients, which are not 0.
type polynomial map[exponents]api.Rat

// checkPolynomial returns the first error of a list of monomials.
func checkPolynomial(rank int, p []api.Monomial) api.Errno {
	if len(p) > maxMonomials {
		return api.ErrLarge
	}
	for _, m := range p {
		if len(m.Exps) != rank {
			return api.ErrShape
		}
		for _, x := range m.Exps {
			if x < 0 || x > maxExponent {
				return api.ErrRange
			}
		}
	}
	return api.OK
}

// collected returns the sum of monomials.
func collected(p []api.Monomial) polynomial {
	f := polynomial{}
	for _, m := range p {
		var exps exponents
		copy(exps[:], m.Exps)
		f.add(exps, m.Coef)
	}
	return f
}

// add adds a monomial.
func (f polynomial) add(exps exponents, c api.Rat) {
	sum := rational.Add(f[exps], c)
	if rational.Sign(sum) == 0 {
		delete(f, exps)
		return
	}
	f[exps] = sum
}

// isHomogeneous reports whether all monomials have the same degree.
func (f polynomial) isHomogeneous() bool {
	least, most := math.MaxInt, 0
	for exps := range f {
		degree := 0
		for _, x := range exps {
			degree += x
		}
		least, most = min(least, degree), max(most, degree)
	}
	return len(f) == 0 || least == most
}

// laplace returns the sum of the second derivatives of f by the variables i and j, each
// multiplied by the element in row i and column j of a matrix.
func (f polynomial) laplace(rank int, inv []api.Rat) polynomial {
	image := polynomial{}
	for exps, c := range f {
		for k, x := range inv {
			i, j := k/rank, k%rank
			derived := exps
			factor := derived[i]
			derived[i]--
			factor *= derived[j]
			derived[j]--
			// Where a derivative is 0, an exponent is negative now, and factor is 0.
			if factor != 0 {
				image.add(derived, rational.Mul(rational.Of(factor), rational.Mul(c, x)))
			}
		}
	}
	return image
}

// weighted returns the sums of the values of f at the vectors of the box, by the values of
// the form below prec.
func weighted(g api.Gram, b []int, f polynomial, prec int) []api.Rat {
	coef := make([]api.Rat, prec)
	for n := range coef {
		coef[n] = rational.Of(0)
	}
	for exps, c := range f {
		for n, total := range monomialSums(g, b, exps, prec) {
			term := rational.Mul(c, rational.Whole(total.value()))
			coef[n] = rational.Add(coef[n], term)
		}
	}
	return coef
}
