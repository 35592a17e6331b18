package matrix

import (
	"halfplane/api"
	"halfplane/bigint"
	"halfplane/rational"
)

// each returns the matrix of what is done to the elements of a; i is the index of an
// element in A.
func each(a api.Matrix, do func(i int, x api.Rat) api.Rat) api.Matrix {
	m := api.Matrix{Rows: a.Rows, Cols: a.Cols, A: make([]api.Rat, len(a.A))}
	for i, x := range a.A {
		m.A[i] = do(i, x)
	}
	return m
}

// normal returns a with normalized elements in memory of their own.
func normal(a api.Matrix) api.Matrix {
	return each(a, func(_ int, x api.Rat) api.Rat { return rational.Normal(x) })
}

// zeros returns the matrix of zeros.
func zeros(rows, cols int) api.Matrix {
	return normal(api.Matrix{Rows: rows, Cols: cols, A: make([]api.Rat, rows*cols)})
}

// identity returns the identity matrix with n rows.
func identity(n int) api.Matrix {
	m := zeros(n, n)
	for i := range n {
		row(m, i)[i] = rational.Of(1)
	}
	return m
}

// join returns the matrix with these rows; its elements share their memory.
func join(cols int, rows [][]api.Rat) api.Matrix {
	m := api.Matrix{Rows: len(rows), Cols: cols, A: make([]api.Rat, 0, len(rows)*cols)}
	for _, l := range rows {
		m.A = append(m.A, l...)
	}
	return m
}

// row returns row i of a; it shares the memory of a.
func row(a api.Matrix, i int) []api.Rat {
	return a.A[i*a.Cols : (i+1)*a.Cols]
}

// rows returns the rows of a; they share the memory of a.
func rows(a api.Matrix) [][]api.Rat {
	l := make([][]api.Rat, a.Rows)
	for i := range l {
		l[i] = row(a, i)
	}
	return l
}

// columns returns the columns of a; their elements share the memory of those of a.
func columns(a api.Matrix) [][]api.Rat {
	l := make([][]api.Rat, a.Cols)
	for j := range l {
		l[j] = make([]api.Rat, a.Rows)
		for i := range a.Rows {
			l[j][i] = row(a, i)[j]
		}
	}
	return l
}

// integral returns integers without a common divisor and a positive number, the
// products of which are the fractions of l. (For zeros the number is 1.)
func integral(l []api.Rat) ([]api.Int, api.Rat) {
	fractions := make([]api.Rat, len(l))
	den := bigint.Of(1)
	for i, x := range l {
		fractions[i] = rational.Normal(x)
		den = commonMultiple(den, fractions[i].Den)
	}
	integers := make([]api.Int, len(l))
	var num api.Int
	for i, x := range fractions {
		integers[i] = x.Num
		if !isOne(den) {
			factor, _ := bigint.Exact(den, x.Den)
			integers[i] = bigint.Mul(x.Num, factor)
		}
		if !isOne(num) {
			num = bigint.Gcd(num, integers[i])
		}
	}
	if bigint.Sign(num) == 0 {
		return integers, rational.Of(1)
	}
	factor, _ := rational.Make(num, den)
	return quotients(integers, num), factor
}

// integralRows returns integral of each of the rows.
func integralRows(rows [][]api.Rat) (l [][]api.Int, factors []api.Rat) {
	l = make([][]api.Int, len(rows))
	factors = make([]api.Rat, len(rows))
	for i, x := range rows {
		l[i], factors[i] = integral(x)
	}
	return l, factors
}

// integralMatrix returns the rows of a positive multiple of a with integers.
func integralMatrix(a api.Matrix) [][]api.Int {
	all, _ := integral(a.A)
	l := make([][]api.Int, a.Rows)
	for i := range l {
		l[i] = all[i*a.Cols : (i+1)*a.Cols]
	}
	return l
}

// commonMultiple returns the least common multiple of a and b > 0.
func commonMultiple(a, b api.Int) api.Int {
	if isOne(b) {
		return a
	}
	rest, _ := bigint.Exact(b, bigint.Gcd(a, b))
	return bigint.Mul(a, rest)
}

// quotients divides the elements of l by a common divisor, in place.
func quotients(l []api.Int, divisor api.Int) []api.Int {
	if !isOne(divisor) {
		for i, x := range l {
			l[i], _ = bigint.Exact(x, divisor)
		}
	}
	return l
}

// isOne reports whether a is 1.
func isOne(a api.Int) bool {
	n, ok := bigint.Small(a)
	return ok && n == 1
}
