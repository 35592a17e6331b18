package symbols

import (
	"halfplane/api"
	"halfplane/bigint"
	"halfplane/matrix"
	"halfplane/qpoly"
	"halfplane/rational"
)

// multiple is a symbol, by its number, times a sign that may be 0.
type multiple struct{ n, sign int }

// remainder is what the relations with S leave of the symbols: each of them is a multiple
// of one that is kept.
type remainder struct {
	multiples []multiple
	// kept are the numbers of those that are kept, and place is the inverse of it.
	kept  []int
	place []int
}

// quotient returns the free symbols, and the coordinates of all symbols as multiples of
// integers by one number; psi is the number of pairs of symbols.
//
// The relations with S are solved first: by them each symbol is 0, or it is kept, or it is
// a multiple of one that is kept and has a greater number. So those that are not kept are
// not free, and of the others the relations with R between them tell which are.
func quotient(relations api.ZMatrix, psi int) (free []int, rows [][]api.Int, scale api.Rat) {
	r := halve(relations)
	echelon, pivots, _ := matrix.Echelon(r.thirds(relations, psi))
	others := without(pivots, len(r.kept))
	for _, i := range others {
		free = append(free, r.kept[i])
	}
	integers, scale := qpoly.Clear(solutions(echelon, pivots, others))
	dim := len(free)
	// Clear leaves out the last zeros.
	integers = append(integers, make([]api.Int, len(r.kept)*dim-len(integers))...)
	rows = make([][]api.Int, len(r.multiples))
	for n, x := range r.multiples {
		rows[n] = make([]api.Int, dim)
		if x.sign != 0 {
			i := r.place[x.n]
			addMultiple(rows[n], integers[i*dim:(i+1)*dim], bigint.Of(x.sign))
		}
	}
	return free, rows, scale
}

// halve solves the relations with S.
func halve(relations api.ZMatrix) remainder {
	r := remainder{place: make([]int, relations.Cols)}
	for n := range relations.Cols {
		x := half(row(relations, n), n)
		r.multiples = append(r.multiples, x)
		if x.n == n && x.sign != 0 {
			r.place[n] = len(r.kept)
			r.kept = append(r.kept, n)
		}
	}
	return r
}

// half returns the multiple that the symbol number n is by its relation with S, in which
// there is at most one other symbol.
func half(relation []api.Int, n int) multiple {
	for m, x := range relation {
		if m == n || bigint.Sign(x) == 0 {
			continue
		}
		if m < n {
			return multiple{n, 1}
		}
		return multiple{m, -bigint.Sign(x)}
	}
	if bigint.Sign(relation[n]) == 0 {
		return multiple{n, 1}
	}
	return multiple{n, 0}
}

// thirds returns the relations with R as relations between the symbols that are kept.
func (r remainder) thirds(relations api.ZMatrix, psi int) api.Matrix {
	m := api.Matrix{Cols: len(r.kept)}
	for n := range relations.Cols {
		relation := row(relations, relations.Cols+n)
		// Of three pairs that R takes to each other, the symbols of one yield all relations.
		if !isFirst(relation, n%psi, psi) {
			continue
		}
		m.Rows++
		for _, x := range r.sum(relation) {
			m.A = append(m.A, rational.Whole(x))
		}
	}
	return m
}

// isFirst reports whether no symbol in a relation has a pair with a lesser index.
func isFirst(relation []api.Int, index, psi int) bool {
	for m, x := range relation {
		if m%psi < index && bigint.Sign(x) != 0 {
			return false
		}
	}
	return true
}

// sum returns a combination of all symbols as one of those that are kept.
func (r remainder) sum(combination []api.Int) []api.Int {
	sum := make([]api.Int, len(r.kept))
	for m, x := range combination {
		if y := r.multiples[m]; y.sign != 0 && bigint.Sign(x) != 0 {
			i := r.place[y.n]
			sum[i] = bigint.Add(sum[i], bigint.Mul(bigint.Of(y.sign), x))
		}
	}
	return sum
}

// solutions returns the unknowns of equations in reduced row echelon form as combinations
// of those without pivots, one after the other.
func solutions(echelon api.Matrix, pivots, others []int) []api.Rat {
	l := make([]api.Rat, echelon.Cols*len(others))
	for j, col := range others {
		l[col*len(others)+j] = rational.Of(1)
		for i, pivot := range pivots {
			l[pivot*len(others)+j] = rational.Neg(echelon.A[i*echelon.Cols+col])
		}
	}
	return l
}

// without returns the numbers less than n that are not in an ascending list.
func without(l []int, n int) []int {
	var others []int
	for i := range n {
		if len(l) > 0 && l[0] == i {
			l = l[1:]
		} else {
			others = append(others, i)
		}
	}
	return others
}

// row returns row i of m; it shares the memory of m.
func row(m api.ZMatrix, i int) []api.Int {
	return m.A[i*m.Cols : (i+1)*m.Cols]
}
