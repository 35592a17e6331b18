package lattice

import (
	"slices"

	"halfplane/api"
	"halfplane/bigint"
	"halfplane/matrix"
	"halfplane/rational"
)

// line is a row other than 0 with the column of its pivot, which is positive.
type line struct {
	row   []api.Int
	pivot int
	// changed says that other lines are perhaps not reduced any more by this one.
	changed bool
}

// basis is a matrix in Hermite normal form without zero rows.
type basis []line

// basisOf returns the basis of the lattice that the rows generate. They are inserted one
// by one into a basis that is reduced after each, because then no number becomes much
// greater than those of the results are (Kannan and Bachem).
func basisOf(rows [][]api.Int) basis {
	var b basis
	for _, row := range rows {
		b = b.with(slices.Clone(row))
	}
	return b
}

// rows returns the rows of b.
func (b basis) rows() [][]api.Int {
	l := make([][]api.Int, len(b))
	for i := range l {
		l[i] = b[i].row
	}
	return l
}

// with returns the basis with another row, which it keeps; it changes b.
func (b basis) with(row []api.Int) basis {
	i := 0
	for col := range row {
		isPivot := i < len(b) && b[i].pivot == col
		if bigint.Sign(row[col]) != 0 {
			if !isPivot {
				b = append(b, newLine(row, col))
				b[i:].moveLastToFirst()
				break
			}
			row = b[i].clear(row)
		}
		if isPivot {
			i++
		}
	}
	b.tidy()
	return b
}

// moveLastToFirst moves the last line before all others.
func (b basis) moveLastToFirst() {
	for k := len(b) - 1; k > 0; k-- {
		b[k], b[k-1] = b[k-1], b[k]
	}
}

// newLine returns the line with the given row, or its negative, which is 0 before the
// column.
func newLine(row []api.Int, col int) line {
	if bigint.Sign(row[col]) < 0 {
		for k, x := range row {
			row[k] = bigint.Neg(x)
		}
	}
	return line{row, col, true}
}

// clear replaces the row of l and another one by unimodular combinations, until the
// other one is 0 at the pivot, and returns that one.
func (l *line) clear(row []api.Int) []api.Int {
	for bigint.Sign(row[l.pivot]) != 0 {
		m := euclid(l.row[l.pivot], row[l.pivot])
		first := l.row
		if bigint.Sign(m.b) != 0 {
			l.row = combination(m.a, first, m.b, row)
			l.changed = true
		}
		row = combination(m.c, first, m.d, row)
	}
	return row
}

// word is the number of binary digits up to which the elements of a unimodular matrix
// are made; with greater ones there is more to do for the rows than is gained.
const word = 64

// unimodular is the matrix (a b; c d) of determinant 1 or -1.
type unimodular struct{ a, b, c, d api.Int }

// euclid returns some steps of Euclid's algorithm for x > 0 and y, which lead to
// a * x + b * y > 0 and a less number c * x + d * y >= 0. If that is not 0, the elements
// of the matrix have become great.
func euclid(x, y api.Int) unimodular {
	m := unimodular{a: bigint.Of(1), d: bigint.Of(1)}
	for {
		q, rest, _ := bigint.DivMod(y, x)
		y = rest
		m.c = bigint.Sub(m.c, bigint.Mul(q, m.a))
		m.d = bigint.Sub(m.d, bigint.Mul(q, m.b))
		if bigint.Sign(y) == 0 || bigint.Bits(m.c) > word || bigint.Bits(m.d) > word {
			return m
		}
		x, y = y, x
		m = unimodular{m.c, m.d, m.a, m.b}
	}
}

// tidy reduces the elements above the pivots after some lines have changed.
func (b basis) tidy() {
	for i := len(b) - 1; i >= 0; i-- {
		changed := b[i].changed
		for _, l := range b[i+1:] {
			if (changed || l.changed) && l.reduce(b[i].row) {
				changed = true
			}
		}
	}
	for i := range b {
		b[i].changed = false
	}
}

// reduce subtracts the multiple of l from another row, in place, after which this is at
// least 0 and less than the pivot in its column, and reports whether it is not 0 times l.
func (l line) reduce(row []api.Int) bool {
	x, pivot := row[l.pivot], l.row[l.pivot]
	if bigint.Sign(x) >= 0 && bigint.Cmp(x, pivot) < 0 {
		return false
	}
	q, _, _ := bigint.DivMod(x, pivot)
	subtract(row, q, l.row)
	return true
}

// rest returns v, reduced by all lines; it is 0 exactly if v is in the lattice.
func (b basis) rest(v []api.Int) []api.Int {
	v = slices.Clone(v)
	for _, l := range b {
		l.reduce(v)
	}
	return v
}

// volume returns the product of the pivots.
func (b basis) volume() api.Int {
	product := bigint.Of(1)
	for _, l := range b {
		product = bigint.Mul(product, l.row[l.pivot])
	}
	return product
}

// intersection returns the Basis of the intersection of the lattices that the rows of a
// and b generate.
func intersection(a, b [][]api.Int, cols int) [][]api.Int {
	zeros := make([][]api.Int, len(b))
	for i := range zeros {
		zeros[i] = make([]api.Int, cols)
	}
	// The rows are pairs (x + y, x) with x in the first and y in the second lattice. For
	// x + y = 0 these are the x in both.
	var l [][]api.Int
	for _, p := range basisOf(append(glue(a, a), glue(b, zeros)...)) {
		if p.pivot >= cols {
			l = append(l, p.row[cols:])
		}
	}
	return l
}

// saturated returns rows that generate the lattice of all integer vectors in the row
// space of a.
func saturated(a api.Matrix) [][]api.Int {
	// Because of the pivots, combinations x * e with integers have integers x, and they
	// are those with integer products with all columns: the lattice that is dual to that
	// of the columns.
	e, _, _ := matrix.Echelon(a)
	columns, _ := matrix.Transpose(e)
	rows, den := integral(columns)
	t, _ := matrix.Scale(fractions(join(e.Rows, basisOf(rows).rows())), fraction(bigint.Of(1), den))
	t, _ = matrix.Inverse(t)
	t, _ = matrix.Transpose(t)
	t, _ = matrix.Mul(t, e)
	rows, _ = integral(t)
	return rows
}

// integral returns the rows of the least positive multiple of a with integers, and the
// factor.
func integral(a api.Matrix) (rows [][]api.Int, den api.Int) {
	den = bigint.Of(1)
	for _, x := range a.A {
		rest, _ := bigint.Exact(x.Den, bigint.Gcd(den, x.Den))
		den = bigint.Mul(den, rest)
	}
	m := api.ZMatrix{Rows: a.Rows, Cols: a.Cols, A: make([]api.Int, len(a.A))}
	for i, x := range a.A {
		m.A[i], _ = rational.Integer(rational.Mul(x, rational.Whole(den)))
	}
	return rowsOf(m), den
}

// fraction returns n/d, where d is not 0.
func fraction(n, d api.Int) api.Rat {
	x, _ := rational.Make(n, d)
	return x
}
