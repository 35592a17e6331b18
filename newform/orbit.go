package newform

import (
	"halfplane/api"
	"halfplane/arith"
	"halfplane/charpoly"
	"halfplane/dimension"
	"halfplane/eigen"
	"halfplane/factor"
	"halfplane/matrix"
	"halfplane/qpoly"
	"halfplane/zpoly"
)

// orbit is an orbit of newforms.
type orbit struct {
	field api.Field
	space api.Space
	// functional has the coordinates of the values, at the basis vectors of the module, of a
	// linear functional to the field that multiplies by a_n if T_n goes before it. It is 1
	// at the class of the Manin symbol with the number symbol.
	functional api.Matrix
	symbol     int
}

// primesOf returns the primes of a Spec.
func primesOf(s api.Spec) []int {
	bound, _ := dimension.Sturm(s)
	l, _ := arith.Primes(bound)
	return l
}

// separate returns the base of the separator, the matrix of t on the quotient, and the
// irreducible factors of its characteristic polynomial.
func (q quotient) separate(primes []int) (base int, t api.Matrix, factors []api.Factor) {
	l := q.operators(primes)
	for base = 1; ; base++ {
		t = q.combination(l, base)
		g, _ := charpoly.CharPoly(t)
		f, _ := qpoly.Clear(g)
		if zpoly.Degree(zpoly.Gcd(f, zpoly.Derivative(f))) == 0 {
			_, factors, _ = factor.Factor(f)
			return base, t, factors
		}
	}
}

// orbit returns the orbit of an irreducible factor f of the characteristic polynomial of t,
// which is given by its matrix on the quotient by the complement of V.
func (q quotient) orbit(v api.Space, t api.Matrix, f api.ZPoly) orbit {
	value, _ := charpoly.At(qpoly.Of(f), t)
	classes, _ := matrix.Mul(v.Basis, q.classes)
	image, _ := matrix.Mul(classes, value)
	o := orbit{space: part(v, image)}
	transpose, _ := matrix.Transpose(t)
	k, values, _ := eigen.Vector(transpose, f)
	o.field = k
	first := 0
	for len(values[first]) == 0 {
		first++
	}
	o.symbol = q.symbols[first]
	o.functional, _ = matrix.Mul(q.classes, coordinates(values, zpoly.Degree(f)))
	return o
}

// coordinates returns the matrix whose rows have the coordinates of elements of a field.
func coordinates(l []api.Elem, degree int) api.Matrix {
	m, _ := matrix.New(len(l), degree)
	for i, x := range l {
		copy(m.A[i*degree:], x)
	}
	return m
}
