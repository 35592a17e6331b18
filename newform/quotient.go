package newform

import (
	"halfplane/api"
	"halfplane/arith"
	"halfplane/bigint"
	"halfplane/boundary"
	"halfplane/charpoly"
	"halfplane/hecke"
	"halfplane/heilbronn"
	"halfplane/matrix"
	"halfplane/rational"
	"halfplane/subspace"
	"halfplane/symbolmap"
	"halfplane/symbols"
)

// quotient is the quotient of a module by the complement of V: by the sum of the other
// parts, which the Hecke operators take to themselves, too. V is isomorphic to it. A Hecke
// operator on it takes much less time than on V, because only the images of as many symbols
// are needed as it has dimensions.
type quotient struct {
	module *symbols.Module
	// symbols are the numbers of the free symbols whose classes are the basis.
	symbols []int
	// classes has the class of the basis vector i of the module as its row i.
	classes api.Matrix
}

// quotientOf returns the quotient for the subspace V of a module.
func quotientOf(m *symbols.Module, v api.Space) quotient {
	s := functionals(m, v)
	free := m.Free()
	q := quotient{module: m}
	_, pivots, _ := matrix.Echelon(s.Basis)
	for _, j := range pivots {
		q.symbols = append(q.symbols, free[j])
	}
	q.classes, _ = matrix.Transpose(s.Basis)
	return q
}

// functionals returns the space of the linear functionals on the module that are 0 on the
// complement of V. A functional is the list of its values at the basis vectors, so that an
// operator acts on it by the transpose of its matrix.
func functionals(m *symbols.Module, v api.Space) api.Space {
	star, _ := boundary.Star(m)
	s := fixed(star)
	primes, _ := arith.Primes(api.MaxHecke)
	for _, p := range primes {
		// That the systems of eigenvalues of V are told from all others by some of these
		// primes was tried for all Specs.
		if s.Basis.Rows == v.Basis.Rows {
			break
		}
		t, _ := hecke.Operator(m, p)
		s = similar(s, t, v)
	}
	return s
}

// fixed returns the space of the functionals that an operator takes to themselves.
func fixed(t api.Matrix) api.Space {
	unit, _ := matrix.Identity(t.Rows)
	difference, _ := matrix.Sub(t, unit)
	difference, _ = matrix.Transpose(difference)
	basis, _ := matrix.Kernel(difference)
	return api.Space{Dim: t.Rows, Basis: basis}
}

// similar returns the functionals of a space that are taken to 0 by the characteristic
// polynomial of an operator on V.
func similar(s api.Space, t api.Matrix, v api.Space) api.Space {
	on, _ := subspace.Restrict(v, t)
	f, _ := charpoly.CharPoly(on)
	transpose, _ := matrix.Transpose(t)
	on, _ = subspace.Restrict(s, transpose)
	value, _ := charpoly.At(f, on)
	return part(s, value)
}

// part returns the x in a space whose coordinates are taken to 0 by t.
func part(s api.Space, t api.Matrix) api.Space {
	c, _ := matrix.Kernel(t)
	// The product of two reduced row echelon forms is one, too.
	basis, _ := matrix.Mul(c, s.Basis)
	return api.Space{Dim: s.Dim, Basis: basis}
}

// operators returns the matrices of the T_p for some primes.
func (q quotient) operators(primes []int) []api.Matrix {
	var l []api.Matrix
	for _, p := range primes {
		t, _ := matrix.Mul(images(q.module, q.symbols, p), q.classes)
		l = append(l, t)
	}
	return l
}

// combination returns the sum of the products of matrices of operators with the powers of a
// number.
func (q quotient) combination(l []api.Matrix, base int) api.Matrix {
	sum, _ := matrix.New(len(q.symbols), len(q.symbols))
	power := bigint.Of(1)
	for _, t := range l {
		multiple, _ := matrix.Scale(t, rational.Whole(power))
		sum, _ = matrix.Add(sum, multiple)
		power = bigint.Mul(power, bigint.Of(base))
	}
	return sum
}

// images returns the matrix whose rows are the images under T_p of the classes of some
// Manin symbols.
func images(m *symbols.Module, numbers []int, p int) api.Matrix {
	// Cremona's list is the shorter one, but there is none for 2.
	l, e := heilbronn.Cremona(p)
	if e != api.OK {
		l, _ = heilbronn.Merel(p)
	}
	sum := symbolmap.Of(m.Spec(), numbers, m)
	for _, g := range l {
		sum.Act(g)
	}
	return sum.Matrix()
}
