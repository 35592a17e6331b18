package supersingular

import (
	"halfplane/api"
	"halfplane/bigint"
)

// graph returns the matrix of the multiplicities of the invariants as roots of phi(j, y),
// with a row for each invariant j.
func (f field) graph(phi [][]api.Int) [][]int {
	modulus := bigint.Of(f.p)
	residue := func(c api.Int) int {
		_, rest, _ := bigint.DivMod(c, modulus)
		n, _ := bigint.Small(rest)
		return n
	}
	columns := make([][]int, len(phi))
	for i, row := range phi {
		for _, c := range row {
			columns[i] = append(columns[i], residue(c))
		}
	}
	invariants := f.invariants()
	number := map[api.Quad]int{}
	for i, j := range invariants {
		number[j] = i
	}
	rows := make([][]int, len(invariants))
	for i, j := range invariants {
		rows[i] = make([]int, len(invariants))
		for _, root := range f.roots(f.neighbours(columns, j), invariants) {
			rows[i][number[root]]++
		}
	}
	return rows
}

// neighbours returns the coefficients of phi(j, y) as a polynomial in y, where columns[k]
// are the coefficients of y^k in phi(x, y), which are polynomials in x.
func (f field) neighbours(columns [][]int, j api.Quad) []api.Quad {
	g := make([]api.Quad, len(columns))
	for k, c := range columns {
		g[k] = f.value(c, j)
	}
	return g
}

// roots returns those roots of g, which is not 0, that are in l, each as often as its
// multiplicity says.
func (f field) roots(g, l []api.Quad) []api.Quad {
	var roots []api.Quad
	for _, x := range l {
		for {
			quotient, rest := f.divide(g, x)
			if !isZero(rest) {
				break
			}
			roots = append(roots, x)
			g = quotient
		}
	}
	return roots
}

// divide returns the quotient of g and y - x, and the remainder, which is the value of g
// at x.
func (f field) divide(g []api.Quad, x api.Quad) (quotient []api.Quad, rest api.Quad) {
	quotient = make([]api.Quad, len(g)-1)
	for i := len(g) - 1; i > 0; i-- {
		quotient[i-1] = f.sum(f.product(rest, x), g[i])
		rest = quotient[i-1]
	}
	return quotient, f.sum(f.product(rest, x), g[0])
}
