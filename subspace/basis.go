package subspace

import (
	"slices"

	"halfplane/api"
	"halfplane/matrix"
	"halfplane/rational"
)

// space returns the subspace with a basis in reduced row echelon form, which it keeps.
func space(basis api.Matrix) api.Space {
	return api.Space{Dim: basis.Cols, Basis: basis}
}

// span returns the row space of a.
func span(a api.Matrix) api.Space {
	basis, _, _ := matrix.Echelon(a)
	return space(basis)
}

// element returns the element of a in row i and column j; it shares the memory of a.
func element(a api.Matrix, i, j int) api.Rat {
	return a.A[i*a.Cols+j]
}

// isReduced reports whether a is its own reduced row echelon form.
func isReduced(a api.Matrix) bool {
	before := -1
	for i := range a.Rows {
		pivot := firstIn(a, i)
		if pivot == a.Cols || pivot <= before || rational.Cmp(element(a, i, pivot), rational.Of(1)) != 0 {
			return false
		}
		for k := range a.Rows {
			if k != i && rational.Sign(element(a, k, pivot)) != 0 {
				return false
			}
		}
		before = pivot
	}
	return true
}

// firstIn returns the first column in which row i is not 0, or the number of columns.
func firstIn(a api.Matrix, i int) int {
	for j := range a.Cols {
		if rational.Sign(element(a, i, j)) != 0 {
			return j
		}
	}
	return a.Cols
}

// columns returns the columns of the pivots of s, and the other ones.
func columns(s api.Space) (pivots, others []int) {
	for i := range s.Basis.Rows {
		pivots = append(pivots, firstIn(s.Basis, i))
	}
	for j := range s.Dim {
		if _, ok := slices.BinarySearch(pivots, j); !ok {
			others = append(others, j)
		}
	}
	return pivots, others
}

// numbers returns the numbers less than n.
func numbers(n int) []int {
	l := make([]int, n)
	for i := range l {
		l[i] = i
	}
	return l
}

// part returns the matrix of some rows and columns of a.
func part(a api.Matrix, rows, cols []int) api.Matrix {
	m := api.Matrix{Rows: len(rows), Cols: len(cols)}
	for _, i := range rows {
		for _, j := range cols {
			m.A = append(m.A, rational.Normal(element(a, i, j)))
		}
	}
	return m
}

// coordinates returns the matrix whose rows are the coordinates of those of a, if these
// are in s.
func coordinates(s api.Space, a api.Matrix) (api.Matrix, bool) {
	pivots, _ := columns(s)
	c := part(a, numbers(a.Rows), pivots)
	product, _ := matrix.Mul(c, s.Basis)
	for i, x := range product.A {
		if rational.Cmp(x, a.A[i]) != 0 {
			return api.Matrix{}, false
		}
	}
	return c, true
}

// annihilator returns the subspace of all y with the product 0 with all x in s.
func annihilator(s api.Space) api.Space {
	t, _ := matrix.Transpose(s.Basis)
	basis, _ := matrix.Kernel(t)
	return space(basis)
}

// values returns the products of the rows of a with a basis of the annihilator of s;
// those of a vector are 0 if it is in s, and only then.
func values(a api.Matrix, s api.Space) api.Matrix {
	t, _ := matrix.Transpose(annihilator(s).Basis)
	m, _ := matrix.Mul(a, t)
	return m
}

// extended returns rows that span the sum of a and b. These are no more than the
// elements of a vector, because a matrix could not have more.
func extended(a, b api.Space) api.Matrix {
	pivots, _ := columns(a)
	inA, _ := matrix.Mul(part(b.Basis, numbers(b.Basis.Rows), pivots), a.Basis)
	rests, _ := matrix.Sub(b.Basis, inA)
	rests, _, _ = matrix.Echelon(rests)
	basis := api.Matrix{Rows: a.Basis.Rows, Cols: a.Dim, A: slices.Clone(a.Basis.A)}
	for i := range rests.Rows {
		row, _ := matrix.Row(rests, i)
		basis.A = append(basis.A, row...)
		basis.Rows++
	}
	return basis
}
