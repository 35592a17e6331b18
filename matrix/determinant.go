package matrix

import (
	"halfplane/api"
	"halfplane/bigint"
	"halfplane/rational"
	"halfplane/residue"
)

// determinant returns the determinant of a.
func determinant(a api.Matrix) api.Rat {
	l, factors := integralRows(rows(a))
	var det api.Rat
	if len(l) > few {
		det = rational.Whole(determinantByPrimes(l))
	} else {
		det = rational.Whole(determinantByMinors(l))
	}
	for _, f := range factors {
		det = rational.Mul(det, f)
	}
	return det
}

// determinantByMinors returns the determinant of the matrix with these rows, which it
// exchanges (Bareiss).
func determinantByMinors(rows [][]api.Int) api.Int {
	det, negative := bigint.Of(1), false
	for len(rows) > 0 {
		i := firstIn(rows, 0)
		if i == len(rows) {
			return api.Int{}
		}
		if i > 0 {
			rows[0], rows[i] = rows[i], rows[0]
			negative = !negative
		}
		pivot := rows[0][0]
		rows = condensed(rows, det)
		det = pivot
	}
	if negative {
		det = bigint.Neg(det)
	}
	return det
}

// condensed returns the matrix of the minors of two rows and columns, one of which is
// the first, divided by a common divisor of them. If the elements are minors of a
// matrix that contain some first rows and columns, so are the minors of one row and
// column more, and the divisor is the first minor before.
func condensed(rows [][]api.Int, divisor api.Int) [][]api.Int {
	first := rows[0]
	l := make([][]api.Int, len(rows)-1)
	for i, x := range rows[1:] {
		l[i] = make([]api.Int, len(x)-1)
		for j, y := range x[1:] {
			minor := bigint.Sub(bigint.Mul(first[0], y), bigint.Mul(x[0], first[j+1]))
			l[i][j], _ = bigint.Exact(minor, divisor)
		}
	}
	return l
}

// determinantByPrimes returns the determinant of the matrix with these rows.
func determinantByPrimes(rows [][]api.Int) api.Int {
	limit := bigint.Mul(bigint.Of(2), hadamard(rows))
	var primes residue.Primes
	var residues []uint64
	for q := residue.First(); bigint.Cmp(primes.Product(), limit) <= 0; q = q.Next() {
		primes.Add(q)
		residues = append(residues, q.Det(q.Rows(rows)))
	}
	return primes.Int(residues)
}

// hadamard returns a number that is greater than the determinant: the product of
// numbers that are greater than the lengths of the rows.
func hadamard(rows [][]api.Int) api.Int {
	bound := bigint.Of(1)
	for _, l := range rows {
		var sum api.Int
		for _, x := range l {
			sum = bigint.Add(sum, bigint.Mul(x, x))
		}
		length, _, _ := bigint.Sqrt(sum)
		bound = bigint.Mul(bound, bigint.Add(length, bigint.Of(1)))
	}
	return bound
}

// signature returns the numbers of positive and negative elements of the diagonal forms
// of a symmetric matrix, whose rows it changes.
//
// The elements are minors as in condensed. The quotient of two consecutive pivots, of
// which divisor is the first, is an element of a diagonal form.
func signature(rows [][]api.Int) (plus, minus int) {
	divisor := bigint.Of(1)
	for len(rows) > 0 && bringPivot(rows) {
		pivot := rows[0][0]
		if bigint.Sign(pivot) == bigint.Sign(divisor) {
			plus++
		} else {
			minus++
		}
		if isAlone(rows[0]) {
			// The rest does not depend on the first row: the minors without it do, too.
			rows = withoutFirst(rows)
			continue
		}
		rows = condensed(rows, divisor)
		divisor = pivot
	}
	return plus, minus
}

// isAlone reports whether only the first element of a row is not 0.
func isAlone(l []api.Int) bool {
	for _, x := range l[1:] {
		if bigint.Sign(x) != 0 {
			return false
		}
	}
	return true
}

// withoutFirst returns the matrix without the first row and column.
func withoutFirst(rows [][]api.Int) [][]api.Int {
	l := make([][]api.Int, len(rows)-1)
	for i, x := range rows[1:] {
		l[i] = x[1:]
	}
	return l
}

// bringPivot changes a symmetric matrix, by the same steps for rows and for columns,
// such that its first element is not 0, and reports whether that is possible.
func bringPivot(rows [][]api.Int) bool {
	for i := range rows {
		if bigint.Sign(rows[i][i]) != 0 {
			exchange(rows, i)
			return true
		}
	}
	for i, l := range rows {
		for j, x := range l {
			if bigint.Sign(x) != 0 {
				addTo(rows, i, j)
				exchange(rows, i)
				return true
			}
		}
	}
	return false
}

// exchange exchanges the first row and column with row and column i.
func exchange(rows [][]api.Int, i int) {
	rows[0], rows[i] = rows[i], rows[0]
	for _, l := range rows {
		l[0], l[i] = l[i], l[0]
	}
}

// addTo adds row j to row i, and column j to column i.
func addTo(rows [][]api.Int, i, j int) {
	for k, x := range rows[j] {
		rows[i][k] = bigint.Add(rows[i][k], x)
	}
	for _, l := range rows {
		l[i] = bigint.Add(l[i], l[j])
	}
}
