package modmatrix

import (
	"halfplane/api"
	"halfplane/arith"
	"halfplane/bigint"
	"halfplane/rational"
	"halfplane/residue"
)

// table is a matrix modulo p. Sums of products of its elements are not reduced before
// they are needed: there are at most 2^10 products, each of them less than 2^32.
type table struct {
	p int
	api.FMatrix
}

// blank returns the matrix of zeros.
func blank(p, rows, cols int) table {
	return table{p, api.FMatrix{Rows: rows, Cols: cols, A: make([]int, rows*cols)}}
}

// read returns the matrix of the residues of the elements.
func read(p int, a api.FMatrix) table {
	t := blank(p, a.Rows, a.Cols)
	for i, x := range a.A {
		t.A[i] = x % p
		if t.A[i] < 0 {
			t.A[i] += p
		}
	}
	return t
}

// fractionModulo returns the residue of a fraction, if it has one.
func fractionModulo(x api.Rat, p int) (int, bool) {
	x = rational.Normal(x)
	q := residue.Of(p)
	den := int(q.Int(x.Den))
	if den == 0 {
		return 0, false
	}
	inverse, _ := arith.Inverse(den, p)
	return int(q.Int(x.Num)) * inverse % p, true
}

// row returns row i; it shares the memory of the matrix.
func (t table) row(i int) []int {
	return t.A[i*t.Cols : (i+1)*t.Cols]
}

// reduce replaces sums by their residues.
func (t table) reduce(l []int) {
	for k, x := range l {
		l[k] = x % t.p
	}
}

// product returns a * b.
func product(a, b table) table {
	m := blank(a.p, a.Rows, b.Cols)
	for i := range a.Rows {
		sum := m.row(i)
		for k, c := range a.row(i) {
			if c != 0 {
				addMultiple(sum, b.row(k), c)
			}
		}
	}
	m.reduce(m.A)
	return m
}

// addMultiple adds c times the row source to another one.
func addMultiple(row, source []int, c int) {
	row = row[:len(source)]
	for k, x := range source {
		row[k] += c * x
	}
}

// eliminate replaces the matrix by its reduced row echelon form, behind which the rows
// become 0, and returns the columns of the pivots with the product of the factors by
// which a determinant was divided.
func (t table) eliminate() (pivots []int, det int) {
	det = 1
	for col := 0; col < t.Cols && len(pivots) < t.Rows; col++ {
		r := len(pivots)
		i := t.firstIn(r, col)
		if i == t.Rows {
			continue
		}
		if i > r {
			t.exchange(i, r)
			det = t.p - det
		}
		source := t.row(r)[col:]
		det = det * source[0] % t.p
		t.scale(source)
		for j := range t.Rows {
			if j != r {
				t.clear(t.row(j)[col:], source)
			}
		}
		pivots = append(pivots, col)
	}
	t.reduce(t.A)
	return pivots, det
}

// firstIn returns the first row from r on that is not 0 in the column, or the number of
// rows. It reduces the elements that it looks at.
func (t table) firstIn(r, col int) int {
	for i := r; i < t.Rows; i++ {
		x := &t.row(i)[col]
		*x %= t.p
		if *x != 0 {
			return i
		}
	}
	return t.Rows
}

// exchange exchanges two rows.
func (t table) exchange(i, j int) {
	l, m := t.row(i), t.row(j)
	for k := range l {
		l[k], m[k] = m[k], l[k]
	}
}

// scale divides a row by its first element, which is a residue and not 0.
func (t table) scale(l []int) {
	inverse, _ := arith.Inverse(l[0], t.p)
	for k, x := range l {
		l[k] = x % t.p * inverse % t.p
	}
}

// clear subtracts a multiple of the row source, which begins with 1, from another one,
// such that this begins with 0.
func (t table) clear(l, source []int) {
	if c := l[0] % t.p; c != 0 {
		addMultiple(l, source, t.p-c)
	}
}

// kernel returns the reduced row echelon form of the solutions of x * t = 0.
func kernel(t table) table {
	n := t.Rows
	equations := backwards(t)
	pivots, _ := equations.eliminate()
	k := blank(t.p, n-len(pivots), n)
	next, done := len(pivots)-1, 0
	for free := n - 1; free >= 0; free-- {
		if next >= 0 && pivots[next] == free {
			next--
			continue
		}
		x := k.row(done)
		x[n-1-free] = 1
		for i, col := range pivots[:next+1] {
			if c := equations.row(i)[free]; c != 0 {
				x[n-1-col] = t.p - c
			}
		}
		done++
	}
	return k
}

// backwards returns the matrix whose rows are the columns of t, each of them backwards.
// With the unknowns in this order those without pivots are the first ones possible, as
// in a matrix whose rows are solutions the pivots are.
func backwards(t table) table {
	m := blank(t.p, t.Cols, t.Rows)
	for i := range t.Rows {
		for j, x := range t.row(i) {
			m.row(j)[t.Rows-1-i] = x
		}
	}
	return m
}

// charPoly returns the characteristic polynomial of t.
func charPoly(t table) api.FPoly {
	rows := make([][]uint64, t.Rows)
	for i := range rows {
		for _, x := range t.row(i) {
			rows[i] = append(rows[i], uint64(x))
		}
	}
	var f api.FPoly
	for _, c := range residue.Of(t.p).CharPoly(rows) {
		f = append(f, int(c))
	}
	return f
}

// rowsOf returns the rows of a; they share its memory.
func rowsOf(a api.ZMatrix) [][]api.Int {
	rows := make([][]api.Int, a.Rows)
	for i := range rows {
		rows[i] = a.A[i*a.Cols : (i+1)*a.Cols]
	}
	return rows
}

// hadamard returns the product of numbers that are greater than the lengths of the rows.
func hadamard(rows [][]api.Int) api.Int {
	bound := bigint.Of(1)
	for _, row := range rows {
		var sum api.Int
		for _, x := range row {
			sum = bigint.Add(sum, bigint.Mul(x, x))
		}
		length, _, _ := bigint.Sqrt(sum)
		bound = bigint.Mul(bound, bigint.Add(length, bigint.Of(1)))
	}
	return bound
}

// determinant returns the determinant of the matrix with these rows: the integer that
// is least in absolute value of those with its residues modulo so many primes that there
// is no other one within the bound.
func determinant(rows [][]api.Int) api.Int {
	limit := bigint.Mul(bigint.Of(2), hadamard(rows))
	var primes residue.Primes
	var residues []uint64
	for q := residue.First(); bigint.Cmp(primes.Product(), limit) <= 0; q = q.Next() {
		primes.Add(q)
		residues = append(residues, q.Det(q.Rows(rows)))
	}
	return primes.Int(residues)
}
