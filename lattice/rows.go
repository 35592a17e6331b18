package lattice

import (
	"halfplane/api"
	"halfplane/bigint"
	"halfplane/rational"
)

// rowsOf returns the rows of m.
func rowsOf(m api.ZMatrix) [][]api.Int {
	l := make([][]api.Int, m.Rows)
	for i := range l {
		l[i] = m.A[i*m.Cols : (i+1)*m.Cols]
	}
	return l
}

// join returns the matrix with these rows in memory of its own.
func join(cols int, rows [][]api.Int) api.ZMatrix {
	m := api.ZMatrix{Rows: len(rows), Cols: cols, A: make([]api.Int, 0, len(rows)*cols)}
	for _, row := range rows {
		for _, x := range row {
			m.A = append(m.A, bigint.Normal(x))
		}
	}
	return m
}

// fractions returns m as a matrix over the rational numbers.
func fractions(m api.ZMatrix) api.Matrix {
	a := api.Matrix{Rows: m.Rows, Cols: m.Cols, A: make([]api.Rat, len(m.A))}
	for i, x := range m.A {
		a.A[i] = rational.Whole(x)
	}
	return a
}

// unit returns the rows of the identity matrix.
func unit(n int) [][]api.Int {
	l := make([][]api.Int, n)
	for i := range l {
		l[i] = make([]api.Int, n)
		l[i][i] = bigint.Of(1)
	}
	return l
}

// glue returns the rows of a, each followed by that of b.
func glue(a, b [][]api.Int) [][]api.Int {
	l := make([][]api.Int, len(a))
	for i := range l {
		l[i] = append(append(l[i], a[i]...), b[i]...)
	}
	return l
}

// split returns the first cols elements of the rows, and the others.
func split(rows [][]api.Int, cols int) (left, right [][]api.Int) {
	for _, row := range rows {
		left = append(left, row[:cols])
		right = append(right, row[cols:])
	}
	return left, right
}

// transposed returns the columns of the matrix with these rows.
func transposed(rows [][]api.Int, cols int) [][]api.Int {
	l := make([][]api.Int, cols)
	for j := range l {
		l[j] = make([]api.Int, len(rows))
		for i, row := range rows {
			l[j][i] = row[j]
		}
	}
	return l
}

// isZero reports whether a row is 0.
func isZero(row []api.Int) bool {
	for _, x := range row {
		if bigint.Sign(x) != 0 {
			return false
		}
	}
	return true
}

// combination returns x * a + y * b.
func combination(x api.Int, a []api.Int, y api.Int, b []api.Int) []api.Int {
	l := make([]api.Int, len(a))
	for k := range l {
		l[k] = plus(times(x, a[k]), times(y, b[k]))
	}
	return l
}

// subtract subtracts the multiple of b by x from a, in place.
func subtract(a []api.Int, x api.Int, b []api.Int) {
	for k, y := range b {
		if bigint.Sign(y) != 0 {
			a[k] = bigint.Sub(a[k], times(x, y))
		}
	}
}

// plus returns a + b, which may be one of them.
func plus(a, b api.Int) api.Int {
	switch {
	case bigint.Sign(a) == 0:
		return b
	case bigint.Sign(b) == 0:
		return a
	}
	return bigint.Add(a, b)
}

// times returns a * b, which may be one of them.
func times(a, b api.Int) api.Int {
	switch {
	case bigint.Sign(a) == 0 || isOne(b):
		return a
	case bigint.Sign(b) == 0 || isOne(a):
		return b
	}
	return bigint.Mul(a, b)
}

// isOne reports whether a is 1.
func isOne(a api.Int) bool {
	n, ok := bigint.Small(a)
	return ok && n == 1
}
