package periods

import (
	"slices"

	"halfplane/api"
	"halfplane/arith"
	"halfplane/boundary"
	"halfplane/dimension"
	"halfplane/hecke"
	"halfplane/matrix"
	"halfplane/newform"
	"halfplane/qpoly"
	"halfplane/rational"
	"halfplane/symbols"
)

// leastExtra is the least number that the additional prime may be.
const leastExtra = 7

// functional returns the values, at the basis vectors of a module, of a linear functional
// that belongs to a newform with rational coefficients and to a sign. It is determined up
// to a factor.
func functional(m *symbols.Module, f *newform.Forms, i, sign int) []api.Rat {
	basis, _ := matrix.Identity(m.Dim())
	star, _ := boundary.Star(m)
	basis = part(basis, star, rational.Of(sign))
	for _, p := range primesOf(f.Spec()) {
		// One dimension is left in the end, so that the further primes leave it, too.
		if basis.Rows == 1 {
			break
		}
		t, _ := hecke.Operator(m, p)
		a, _ := f.Trace(i, p)
		basis = part(basis, t, a)
	}
	return basis.A
}

// primesOf returns the primes of which the operators determine a functional.
func primesOf(s api.Spec) []int {
	bound, _ := dimension.Sturm(s)
	l, _ := arith.Primes(bound)
	if p := extraPrime(s.Level); !slices.Contains(l, p) {
		l = append(l, p)
	}
	return l
}

// extraPrime returns the least prime from leastExtra on that does not divide the level.
func extraPrime(level int) int {
	for p := leastExtra; ; p++ {
		if prime, _ := arith.IsPrime(p); prime && level%p != 0 {
			return p
		}
	}
}

// part returns a basis of the functionals c with c(x t) = a c(x) among the combinations of
// those that are the rows of basis.
func part(basis, t api.Matrix, a api.Rat) api.Matrix {
	// An operator acts on the values at the basis vectors by the transpose of its matrix.
	transpose, _ := matrix.Transpose(t)
	image, _ := matrix.Mul(basis, transpose)
	multiple, _ := matrix.Scale(basis, a)
	difference, _ := matrix.Sub(image, multiple)
	c, _ := matrix.Kernel(difference)
	l, _ := matrix.Mul(c, basis)
	return l
}

// primitive returns the multiple of a functional whose values at all Manin symbols are
// integers without a common divisor, of which the first one other than 0 is positive.
func primitive(m *symbols.Module, values []api.Rat) []api.Rat {
	column := api.Matrix{Rows: len(values), Cols: 1, A: values}
	all, _ := matrix.Mul(m.Matrix(), column)
	_, factor := qpoly.Clear(all.A)
	first := slices.IndexFunc(all.A, func(x api.Rat) bool { return rational.Sign(x) != 0 })
	if rational.Sign(factor) != rational.Sign(all.A[first]) {
		factor = rational.Neg(factor)
	}
	l := make([]api.Rat, len(values))
	for i, x := range values {
		l[i], _ = rational.Quo(x, factor)
	}
	return l
}
