package subspace_test

import (
	"math"
	"math/big"
	"math/rand"
	"slices"
	"strings"
	"testing"

	"halfplane/api"
	"halfplane/bigint"
	"halfplane/matrix"
	"halfplane/rational"
)

// table is a matrix of the tests' own arithmetic; the rows have cols elements.
type table struct {
	cols int
	rows [][]*big.Rat
}

var minusZero = api.Int{Neg: true, Mag: []uint32{0, 0}}

// toInt reads an integer as its digits denote it.
func toInt(a api.Int) *big.Int {
	z := new(big.Int)
	for _, d := range slices.Backward(a.Mag) {
		z.Lsh(z, 32).Or(z, big.NewInt(int64(d)))
	}
	if a.Neg {
		z.Neg(z)
	}
	return z
}

// toRat reads a fraction as it is to be read, with 0 as a denominator.
func toRat(a api.Rat) *big.Rat {
	d := toInt(a.Den)
	if d.Sign() == 0 {
		return new(big.Rat)
	}
	return new(big.Rat).SetFrac(toInt(a.Num), d)
}

// toTable reads a matrix.
func toTable(a api.Matrix) table {
	m := table{cols: a.Cols}
	for i := range a.Rows {
		var row []*big.Rat
		for _, x := range a.A[i*a.Cols : (i+1)*a.Cols] {
			row = append(row, toRat(x))
		}
		m.rows = append(m.rows, row)
	}
	return m
}

// blank returns the table of zeros.
func blank(rows, cols int) table {
	m := table{cols: cols}
	for range rows {
		row := make([]*big.Rat, cols)
		for j := range row {
			row[j] = new(big.Rat)
		}
		m.rows = append(m.rows, row)
	}
	return m
}

// unit returns the table of the identity matrix.
func unit(n int) table {
	m := blank(n, n)
	for i := range n {
		m.rows[i][i].SetInt64(1)
	}
	return m
}

// add returns a + c * b.
func add(a, b table, c int64) table {
	m := blank(len(a.rows), a.cols)
	for i, row := range m.rows {
		for j, x := range row {
			x.Add(a.rows[i][j], new(big.Rat).Mul(big.NewRat(c, 1), b.rows[i][j]))
		}
	}
	return m
}

func mul(a, b table) table {
	m := blank(len(a.rows), b.cols)
	for i, row := range m.rows {
		for j, x := range row {
			for k := range b.rows {
				x.Add(x, new(big.Rat).Mul(a.rows[i][k], b.rows[k][j]))
			}
		}
	}
	return m
}

func transpose(a table) table {
	m := blank(a.cols, len(a.rows))
	for i, row := range a.rows {
		for j, x := range row {
			m.rows[j][i].Set(x)
		}
	}
	return m
}

// copyOf returns a in memory of its own.
func copyOf(a table) table {
	return transpose(transpose(a))
}

// reduce returns the reduced row echelon form and the columns of the pivots, by the
// steps of the textbook.
func reduce(a table) (table, []int) {
	m := copyOf(a)
	var pivots []int
	for col := range m.cols {
		r := len(pivots)
		i := r
		for i < len(m.rows) && m.rows[i][col].Sign() == 0 {
			i++
		}
		if i == len(m.rows) {
			continue
		}
		m.rows[r], m.rows[i] = m.rows[i], m.rows[r]
		inverse := new(big.Rat).Inv(m.rows[r][col])
		for _, x := range m.rows[r] {
			x.Mul(x, inverse)
		}
		for k, row := range m.rows {
			c := new(big.Rat).Set(row[col])
			if k == r || c.Sign() == 0 {
				continue
			}
			for j, x := range row {
				x.Sub(x, new(big.Rat).Mul(c, m.rows[r][j]))
			}
		}
		pivots = append(pivots, col)
	}
	m.rows = m.rows[:len(pivots)]
	return m, pivots
}

// of returns the matrix with rows of small integers; cols is only looked at without rows.
func of(cols int, rows ...[]int) api.Matrix {
	m := api.Matrix{Rows: len(rows), Cols: cols}
	for _, row := range rows {
		m.Cols = len(row)
		for _, x := range row {
			m.A = append(m.A, rational.Of(x))
		}
	}
	return m
}

// parse returns the row of the fractions in a text.
func parse(s string) []api.Rat {
	var l []api.Rat
	for _, word := range strings.Fields(s) {
		x, e := rational.Parse(word)
		if e != api.OK {
			panic(word)
		}
		l = append(l, x)
	}
	return l
}

// randomInt returns an integer of up to n digits, sometimes with leading zeros or a minus sign of zero.
func randomInt(r *rand.Rand, n int) api.Int {
	mag := make([]uint32, r.Intn(n+1))
	for i := range mag {
		switch r.Intn(3) {
		case 0:
			mag[i] = uint32(r.Intn(7))
		case 1:
			mag[i] = math.MaxUint32
		default:
			mag[i] = r.Uint32()
		}
	}
	return api.Int{Neg: r.Intn(2) == 0, Mag: mag}
}

// randomRat returns a fraction, often not in lowest terms, and sometimes with the denominator 0.
func randomRat(r *rand.Rand, n int) api.Rat {
	c := randomInt(r, 1)
	switch r.Intn(4) {
	case 0:
		return api.Rat{Num: randomInt(r, n), Den: bigint.Of(1)}
	case 1:
		return api.Rat{Num: bigint.Mul(c, randomInt(r, n)), Den: bigint.Mul(c, randomInt(r, n))}
	}
	return api.Rat{Num: bigint.Of(r.Intn(9) - 4), Den: bigint.Of(r.Intn(9) - 4)}
}

// random returns a matrix of one of several kinds.
func random(r *rand.Rand, rows, cols int) api.Matrix {
	m := api.Matrix{Rows: rows, Cols: cols, A: make([]api.Rat, rows*cols)}
	kind := r.Intn(4)
	for i := range m.A {
		switch kind {
		case 0:
			m.A[i] = rational.Of(r.Intn(3) - 1)
		case 1:
			m.A[i] = rational.Of(r.Intn(2) * r.Intn(2) * (r.Intn(19) - 9))
		case 2:
			m.A[i] = randomRat(r, 2)
		default:
			m.A[i] = rational.Of(r.Intn(199) - 99)
		}
	}
	return m
}

// randomOfRank returns a product of matrices with so many columns and rows.
func randomOfRank(r *rand.Rand, rows, cols, rank int) api.Matrix {
	m, _ := matrix.Mul(random(r, rows, rank), random(r, rank, cols))
	return m
}

// normalized reports whether an integer has no leading zeros and is not a negative zero.
func normalized(a api.Int) bool {
	n := len(a.Mag)
	return n == 0 && !a.Neg || n > 0 && a.Mag[n-1] != 0
}

// checkRat reports a fraction that is not normalized or not the one expected.
func checkRat(t *testing.T, what string, got api.Rat, want *big.Rat) {
	t.Helper()
	if !normalized(got.Num) || !normalized(got.Den) || toInt(got.Num).Cmp(want.Num()) != 0 || toInt(got.Den).Cmp(want.Denom()) != 0 {
		t.Fatalf("%s = %v, want %v", what, got, want)
	}
}

// check reports a matrix that is not normalized or not the one expected.
func check(t *testing.T, what string, got api.Matrix, e api.Errno, want table) {
	t.Helper()
	if e != api.OK || got.Rows != len(want.rows) || got.Cols != want.cols || len(got.A) != got.Rows*got.Cols {
		t.Fatalf("%s = %v, %d, want %v", what, got, e, want)
	}
	for i, row := range want.rows {
		for j, x := range row {
			checkRat(t, what, got.A[i*got.Cols+j], x)
		}
	}
}

// checkRow reports a vector that is not the one expected.
func checkRow(t *testing.T, what string, got []api.Rat, e api.Errno, want []*big.Rat) {
	t.Helper()
	check(t, what, api.Matrix{Rows: 1, Cols: len(got), A: got}, e, table{cols: len(want), rows: [][]*big.Rat{want}})
}

// overwrite writes into all digits of an integer, up to the capacity.
func overwrite(a api.Int) {
	for i := range a.Mag[:cap(a.Mag)] {
		a.Mag[:cap(a.Mag)][i] = 0xDEADBEEF
	}
}

// text returns what a list of fractions consists of, whatever their values.
func text(l []api.Rat) string {
	var b strings.Builder
	for _, a := range l {
		for _, n := range []api.Int{a.Num, a.Den} {
			if n.Neg {
				b.WriteString("-")
			}
			for _, d := range n.Mag {
				b.WriteString(big.NewInt(int64(d)).String() + ",")
			}
			b.WriteString(";")
		}
	}
	return b.String()
}

// checkMemory reports elements of a result that share memory with each other, which is
// seen by writing into them one by one.
func checkMemory(t *testing.T, what string, l []api.Rat) {
	t.Helper()
	for i := range l {
		before := text(l[i+1:])
		den := text([]api.Rat{{Den: l[i].Den}})
		overwrite(l[i].Num)
		if text([]api.Rat{{Den: l[i].Den}}) != den {
			t.Fatal(what, "a numerator shares memory with its denominator")
		}
		overwrite(l[i].Den)
		if text(l[i+1:]) != before {
			t.Fatal(what, "two elements share memory", i)
		}
	}
}
