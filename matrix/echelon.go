package matrix

import (
	"halfplane/api"
	"halfplane/bigint"
	"halfplane/rational"
)

// Matrices with at most so many rows or columns are reduced with integers of any size,
// because computing modulo primes gains nothing for them.
const few = 8

// echelon returns the reduced row echelon form of the matrix with these rows of n
// elements, and the columns of its pivots.
func echelon(rows [][]api.Rat, n int) (reduced [][]api.Rat, pivots []int) {
	l, _ := integralRows(rows)
	if min(len(l), n) > few {
		return echelonByPrimes(l, n)
	}
	pivots = eliminate(l, n)
	reduced = make([][]api.Rat, len(pivots))
	for i, col := range pivots {
		reduced[i] = make([]api.Rat, n)
		for j, x := range l[i] {
			reduced[i][j], _ = rational.Make(x, l[i][col])
		}
	}
	return reduced, pivots
}

// eliminate replaces the rows by multiples of those of the reduced row echelon form,
// and returns the columns of the pivots; the rows behind those with pivots become 0.
func eliminate(rows [][]api.Int, n int) (pivots []int) {
	for col := 0; col < n && len(pivots) < len(rows); col++ {
		r := len(pivots)
		i := r + firstIn(rows[r:], col)
		if i == len(rows) {
			continue
		}
		rows[r], rows[i] = rows[i], rows[r]
		for j, l := range rows {
			if j != r && bigint.Sign(l[col]) != 0 {
				rows[j] = cleared(l, rows[r], col)
			}
		}
		pivots = append(pivots, col)
	}
	return pivots
}

// firstIn returns the first row that is not 0 in the column, or the number of rows.
func firstIn(rows [][]api.Int, col int) int {
	for i, l := range rows {
		if bigint.Sign(l[col]) != 0 {
			return i
		}
	}
	return len(rows)
}

// cleared returns a combination of two rows that is 0 in a column in which they are
// not, without common divisors of its elements.
func cleared(l, source []api.Int, col int) []api.Int {
	divisor := bigint.Gcd(l[col], source[col])
	f, _ := bigint.Exact(source[col], divisor)
	g, _ := bigint.Exact(l[col], divisor)
	m := make([]api.Int, len(l))
	var content api.Int
	for k := range l {
		m[k] = bigint.Sub(bigint.Mul(f, l[k]), bigint.Mul(g, source[k]))
		if !isOne(content) {
			content = bigint.Gcd(content, m[k])
		}
	}
	if bigint.Sign(content) == 0 {
		return m
	}
	return quotients(m, content)
}

// rank returns the rank of a.
func rank(a api.Matrix) int {
	// A matrix of full rank with as many rows as columns, or more, has an echelon form
	// without other columns than those of the pivots, which need not be found.
	l, n := rows(a), a.Cols
	if a.Rows < a.Cols {
		l, n = columns(a), a.Rows
	}
	_, pivots := echelon(l, n)
	return len(pivots)
}

// backwards returns the columns of t, each of them backwards. With the unknowns in this
// order those without pivots are the first ones possible, as in a matrix whose rows are
// solutions the pivots are.
func backwards(t api.Matrix) [][]api.Rat {
	l := columns(t)
	for _, column := range l {
		for i, j := 0, len(column)-1; i < j; i, j = i+1, j-1 {
			column[i], column[j] = column[j], column[i]
		}
	}
	return l
}

// kernel returns the rows of the reduced row echelon form of the solutions of x * t = 0.
func kernel(t api.Matrix) [][]api.Rat {
	n := t.Rows
	reduced, pivots := echelon(backwards(t), n)
	var l [][]api.Rat
	next := len(pivots) - 1
	for free := n - 1; free >= 0; free-- {
		if next >= 0 && pivots[next] == free {
			next--
			continue
		}
		x := row(zeros(1, n), 0)
		x[n-1-free] = rational.Of(1)
		for i, col := range pivots[:next+1] {
			x[n-1-col] = rational.Neg(reduced[i][free])
		}
		l = append(l, x)
	}
	return l
}

// solution returns the solution of x * t = b that is 0 at the pivots of the kernel, if
// there is one.
func solution(t api.Matrix, b []api.Rat) ([]api.Rat, bool) {
	n := t.Rows
	equations := backwards(t)
	for j := range equations {
		equations[j] = append(equations[j], b[j])
	}
	reduced, pivots := echelon(equations, n+1)
	if len(pivots) > 0 && pivots[len(pivots)-1] == n {
		return nil, false
	}
	x := row(zeros(1, n), 0)
	for i, col := range pivots {
		x[n-1-col] = reduced[i][n]
	}
	return x, true
}

// inverse returns the rows of the inverse of a, which has one.
func inverse(a api.Matrix) [][]api.Rat {
	n := a.Rows
	unit := identity(n)
	l := make([][]api.Rat, n)
	for i := range l {
		l[i] = append(append(l[i], row(a, i)...), row(unit, i)...)
	}
	reduced, _ := echelon(l, 2*n)
	for i := range reduced {
		reduced[i] = reduced[i][n:]
	}
	return reduced
}
