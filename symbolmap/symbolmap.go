// Package symbolmap makes the matrices of linear maps between spaces of modular symbols
// from the images of the free symbols, or of some of the Manin symbols. It is no layer of the document: the operators of
// several layers are such maps, and it takes much less time to add up the images as
// combinations of Manin symbols, and then to find their classes, than to find the class of
// every image.
package symbolmap

import (
	"halfplane/api"
	"halfplane/bigint"
	"halfplane/contfrac"
	"halfplane/homogeneous"
	"halfplane/manin"
	"halfplane/matrix"
	"halfplane/projline"
	"halfplane/rational"
	"halfplane/sl2"
	"halfplane/symbols"
)

// Map is a linear map from the module of a Spec to that of a Spec with the same weight.
type Map struct {
	target  *symbols.Module
	weight  int
	symbols []symbol
	table   table
	// sums[i] is the image of symbols[i]: a combination of the Manin symbols of the target.
	sums [][]api.Int
}

// symbol is the Manin symbol [X^exp Y^(k-2-exp), (c, d)]; lift is a matrix of SL2(Z) with
// the lower row (c, d).
type symbol struct {
	exp  int
	lift api.Mat2
}

// New returns the map 0 between two modules, which may be the same one.
func New(source, target *symbols.Module) *Map {
	return Of(source.Spec(), source.Free(), target)
}

// Of returns the map 0 from the classes of some Manin symbols of a Spec, which are given by
// their numbers, to a module.
func Of(s api.Spec, numbers []int, target *symbols.Module) *Map {
	below := target.Spec()
	m := &Map{target: target, weight: s.Weight, table: tableOf(below)}
	points, _ := projline.Count(s.Level)
	count, _ := manin.Count(below)
	for _, n := range numbers {
		lift, _ := projline.Lift(s.Level, n%points)
		m.symbols = append(m.symbols, symbol{n / points, lift})
		m.sums = append(m.sums, make([]api.Int, count))
	}
	return m
}

// Act adds the map that takes the class of a Manin symbol x to that of x g, for an integer
// matrix g (layer 40). The levels of both modules are to be the same one.
func (m *Map) Act(g api.Mat2) {
	// Symbols with the same exponent have images with the same polynomial.
	images := make([][]api.Int, max(m.weight-1, 0))
	for i, x := range m.symbols {
		if images[x.exp] == nil {
			images[x.exp] = homogeneous.Monomial(x.exp, m.weight-2, g)
		}
		u, v := x.lift.C*g.A+x.lift.D*g.C, x.lift.C*g.B+x.lift.D*g.D
		m.add(i, images[x.exp], u, v, 1)
	}
}

// Translate adds the map that takes the class of a path to the sum of factor, which is 1
// or -1, times that of its image under an integer matrix g with a determinant other than 0
// (layer 42). The entries of g are to be small.
func (m *Map) Translate(g api.Mat2, factor int) {
	for i, x := range m.symbols {
		// The path of x is that of the monomial from 0 to infinity under x.lift.
		whole, _ := sl2.Mul(g, x.lift)
		from, _ := sl2.Reduce(whole.B, whole.D)
		to, _ := sl2.Reduce(whole.A, whole.C)
		chain, _ := contfrac.Chain(from, to)
		for j := 1; j < len(chain); j++ {
			step, _ := contfrac.Unimodular(chain[j-1], chain[j])
			poly := homogeneous.Monomial(x.exp, m.weight-2, adjointTimes(whole, step))
			m.add(i, poly, step.C, step.D, factor)
		}
	}
}

// Matrix returns the matrix of the map: its rows are the images of the symbols.
func (m *Map) Matrix() api.Matrix {
	rows := make([][]api.Rat, len(m.sums))
	for i, sum := range m.sums {
		vector := make([]api.Rat, len(sum))
		for n, x := range sum {
			vector[n] = rational.Whole(x)
		}
		rows[i], _ = m.target.Vector(vector)
	}
	a, _ := matrix.FromRows(m.target.Dim(), rows)
	return a
}

// add adds factor [P, (u, v)] to the image of symbols[i], or nothing if there is no such
// symbol; factor is 1 or -1.
func (m *Map) add(i int, poly []api.Int, u, v, factor int) {
	p := m.table.places[m.table.at(u, v)]
	if p.sign == 0 {
		return
	}
	combine := bigint.Add
	if p.sign != factor {
		combine = bigint.Sub
	}
	n := p.index
	for _, c := range poly {
		m.sums[i][n] = combine(m.sums[i][n], c)
		n += m.table.points
	}
}

// adjointTimes returns (d -b; -c a) h for g = (a b; c d).
func adjointTimes(g, h api.Mat2) api.Mat2 {
	return api.Mat2{
		A: g.D*h.A - g.B*h.C,
		B: g.D*h.B - g.B*h.D,
		C: g.A*h.C - g.C*h.A,
		D: g.A*h.D - g.C*h.B,
	}
}
