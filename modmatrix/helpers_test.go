package modmatrix_test

import (
	"math"
	"math/big"
	"math/rand"
	"slices"
	"strings"
	"testing"

	"halfplane/api"
	"halfplane/bigint"
	"halfplane/rational"
)

var minusZero = api.Int{Neg: true, Mag: []uint32{0, 0}}

// toInt reads an integer as its digits denote it.
func toInt(a api.Int) *big.Int {
	z := new(big.Int)
	for _, d := range slices.Backward(a.Mag) {
		z.Lsh(z, 32).Or(z, big.NewInt(int64(d)))
	}
	if a.Neg {
		z.Neg(z)
	}
	return z
}

// toRat reads a fraction as it is to be read, with 0 as a denominator.
func toRat(a api.Rat) *big.Rat {
	d := toInt(a.Den)
	if d.Sign() == 0 {
		return new(big.Rat)
	}
	return new(big.Rat).SetFrac(toInt(a.Num), d)
}

// normalized reports whether an integer has no leading zeros and is not a negative zero.
func normalized(a api.Int) bool {
	n := len(a.Mag)
	return n == 0 && !a.Neg || n > 0 && a.Mag[n-1] != 0
}

// checkInt reports an integer that is not normalized or not the one expected.
func checkInt(t *testing.T, what string, got api.Int, e api.Errno, want *big.Int) {
	t.Helper()
	if e != api.OK || !normalized(got) || toInt(got).Cmp(want) != 0 {
		t.Fatalf("%s = %v, %d, want %v", what, got, e, want)
	}
}

// randomInt returns an integer of up to n digits, sometimes with leading zeros or a
// minus sign of zero.
func randomInt(r *rand.Rand, n int) api.Int {
	mag := make([]uint32, r.Intn(n+1))
	for i := range mag {
		switch r.Intn(3) {
		case 0:
			mag[i] = uint32(r.Intn(7))
		case 1:
			mag[i] = math.MaxUint32
		default:
			mag[i] = r.Uint32()
		}
	}
	return api.Int{Neg: r.Intn(2) == 0, Mag: mag}
}

// table is a matrix of residues of the tests' own arithmetic.
type table struct {
	cols int
	rows [][]int
}

// residue returns the residue of x modulo p.
func residue(x, p int) int {
	return (x%p + p) % p
}

// toTable reads a matrix modulo p.
func toTable(p int, a api.FMatrix) table {
	m := table{cols: a.Cols}
	for i := range a.Rows {
		var row []int
		for _, x := range a.A[i*a.Cols : (i+1)*a.Cols] {
			row = append(row, residue(x, p))
		}
		m.rows = append(m.rows, row)
	}
	return m
}

func mul(p int, a, b table) table {
	m := table{cols: b.cols}
	for _, l := range a.rows {
		row := make([]int, b.cols)
		for j := range row {
			for k, x := range l {
				row[j] = (row[j] + x*b.rows[k][j]) % p
			}
		}
		m.rows = append(m.rows, row)
	}
	return m
}

// inverse returns the inverse of a residue that is not 0, by Euclid's algorithm.
func inverse(p, x int) int {
	return int(new(big.Int).ModInverse(big.NewInt(int64(x)), big.NewInt(int64(p))).Int64())
}

// reduce returns the reduced row echelon form, the columns of the pivots, and the
// determinant of a square matrix, by the steps of the textbook.
func reduce(p int, a table) (m table, pivots []int, det int) {
	m.cols = a.cols
	for _, row := range a.rows {
		m.rows = append(m.rows, slices.Clone(row))
	}
	det = 1
	for col := range m.cols {
		r := len(pivots)
		i := r
		for i < len(m.rows) && m.rows[i][col] == 0 {
			i++
		}
		if i == len(m.rows) {
			det = 0
			continue
		}
		if i > r {
			m.rows[r], m.rows[i] = m.rows[i], m.rows[r]
			det = residue(-det, p)
		}
		det = det * m.rows[r][col] % p
		c := inverse(p, m.rows[r][col])
		for k := range m.rows[r] {
			m.rows[r][k] = m.rows[r][k] * c % p
		}
		for j, row := range m.rows {
			c := row[col]
			for k := range row {
				if j != r {
					row[k] = residue(row[k]-c*m.rows[r][k], p)
				}
			}
		}
		pivots = append(pivots, col)
	}
	m.rows = m.rows[:len(pivots)]
	return m, pivots, det
}

// kernelOf returns the reduced row echelon form of the x with x * a = 0: the right half
// of the rows of (a 1), reduced, that are 0 in the left one.
func kernelOf(p int, a table) table {
	m := table{cols: a.cols + len(a.rows)}
	for i, row := range a.rows {
		unit := make([]int, len(a.rows))
		unit[i] = 1
		m.rows = append(m.rows, slices.Concat(row, unit))
	}
	m, pivots, _ := reduce(p, m)
	k := table{cols: len(a.rows)}
	for i, col := range pivots {
		if col >= a.cols {
			k.rows = append(k.rows, m.rows[i][a.cols:])
		}
	}
	k, _, _ = reduce(p, k)
	return k
}

// check reports a matrix that is not the one expected.
func check(t *testing.T, what string, got api.FMatrix, e api.Errno, want table) {
	t.Helper()
	if e != api.OK || got.Rows != len(want.rows) || got.Cols != want.cols || !slices.Equal(got.A, slices.Concat(want.rows...)) {
		t.Fatalf("%s = %v, %d, want %v", what, got, e, want)
	}
}

// of returns the matrix with rows of integers; cols is only looked at without rows.
func of(cols int, rows ...[]int) api.FMatrix {
	m := api.FMatrix{Rows: len(rows), Cols: cols}
	for _, row := range rows {
		m.Cols = len(row)
		m.A = append(m.A, row...)
	}
	return m
}

// random returns a matrix of one of several kinds; the elements need not be residues.
func random(r *rand.Rand, rows, cols int) api.FMatrix {
	m := api.FMatrix{Rows: rows, Cols: cols, A: make([]int, rows*cols)}
	kind := r.Intn(3)
	for i := range m.A {
		switch kind {
		case 0:
			m.A[i] = r.Intn(3) - 1
		case 1:
			m.A[i] = r.Intn(2) * (r.Intn(199) - 99)
		default:
			m.A[i] = []int{math.MaxInt, math.MinInt, r.Int(), -r.Int()}[r.Intn(4)]
		}
	}
	return m
}

// randomOfRank returns a matrix modulo p of at most the rank.
func randomOfRank(r *rand.Rand, p, rows, cols, rank int) api.FMatrix {
	m := mul(p, toTable(p, random(r, rows, rank)), toTable(p, random(r, rank, cols)))
	return api.FMatrix{Rows: rows, Cols: cols, A: slices.Concat(m.rows...)}
}

// parse returns the fractions in a text.
func parse(s string) []api.Rat {
	var l []api.Rat
	for _, word := range strings.Fields(s) {
		x, e := rational.Parse(word)
		if e != api.OK {
			panic(word)
		}
		l = append(l, x)
	}
	return l
}

// integers returns small integers.
func integers(l ...int) []api.Int {
	var z []api.Int
	for _, x := range l {
		z = append(z, bigint.Of(x))
	}
	return z
}

// square returns the square matrix of small integers.
func square(n int, l ...int) api.ZMatrix {
	return api.ZMatrix{Rows: n, Cols: n, A: integers(l...)}
}

// overwrite writes into all digits of an integer, up to the capacity.
func overwrite(a api.Int) {
	for i := range a.Mag[:cap(a.Mag)] {
		a.Mag[:cap(a.Mag)][i] = 0xDEADBEEF
	}
}

// text returns what a list of integers consists of, whatever their values.
func text(l ...api.Int) string {
	var b strings.Builder
	for _, n := range l {
		if n.Neg {
			b.WriteString("-")
		}
		for _, d := range n.Mag {
			b.WriteString(big.NewInt(int64(d)).String() + ",")
		}
		b.WriteString(";")
	}
	return b.String()
}
