package levelone

import (
	"halfplane/api"
	"halfplane/series"
)

// blockSize is the number of coefficients of a polynomial that are put together with
// powers of j that are computed once.
const blockSize = 5

// ofJ returns the expansion of f(j) with a precision that is not negative.
//
// The coefficients of f are taken in blocks. The sum of each one needs only low powers of
// j, and there are fewer products by the power of a whole block than there are
// coefficients.
func ofJ(f api.Poly, prec int) api.Series {
	degree := len(f) - 1
	if degree < 1 {
		return constant(f, prec)
	}
	// All powers need as many coefficients of j as there are from q^-degree on.
	powers := []api.Series{j(prec + degree - 1)}
	for len(powers) < min(blockSize, degree) {
		powers = append(powers, product(powers[0], powers[len(powers)-1]))
	}
	top := degree / blockSize * blockSize
	value := block(f[top:], powers)
	for start := top - blockSize; start >= 0; start -= blockSize {
		value = product(value, powers[blockSize-1])
		value = sum(value, block(f[start:start+blockSize], powers))
	}
	return value
}

// block returns the value of f, where powers are those of j from the first one on.
func block(f api.Poly, powers []api.Series) api.Series {
	value := constant(f, api.MaxPrec)
	for i := range len(f) - 1 {
		value = sum(value, scaled(f[i+1], powers[i]))
	}
	return value
}

// constant returns the constant term of f as a series.
func constant(f api.Poly, prec int) api.Series {
	if len(f) == 0 {
		return api.Series{From: prec}
	}
	c, _ := series.Monomial(f[0], 0, prec)
	return c
}

// polynomial returns the polynomial f for which f(j) has the coefficients of a normalized
// a up to that of q^0.
func polynomial(a api.Series) api.Poly {
	degree := -a.From
	if degree < 0 {
		return nil
	}
	f := make(api.Poly, degree+1)
	// The coefficients from q^-degree to q^0 determine f.
	base := j(degree)
	rest := a
	for i := degree; i >= 0; i-- {
		f[i], _ = series.At(rest, -i)
		power, _ := series.Power(base, i)
		rest, _ = series.Sub(rest, scaled(f[i], power))
	}
	return f
}

// end returns the precision of a valid series.
func end(a api.Series) int {
	return a.From + len(a.Coef)
}
