package lattice_test

import (
	"math"
	"math/big"
	"math/rand"
	"slices"
	"strings"
	"testing"

	"halfplane/api"
	"halfplane/bigint"
)

// table is a matrix of the tests' own arithmetic; the rows have cols elements.
type table struct {
	cols int
	rows [][]*big.Int
}

var minusZero = api.Int{Neg: true, Mag: []uint32{0, 0}}

// toInt reads an integer as its digits denote it.
func toInt(a api.Int) *big.Int {
	z := new(big.Int)
	for _, d := range slices.Backward(a.Mag) {
		z.Lsh(z, 32).Or(z, big.NewInt(int64(d)))
	}
	if a.Neg {
		z.Neg(z)
	}
	return z
}

// toTable reads a matrix.
func toTable(m api.ZMatrix) table {
	l := table{cols: m.Cols}
	for i := range m.Rows {
		var row []*big.Int
		for _, x := range m.A[i*m.Cols : (i+1)*m.Cols] {
			row = append(row, toInt(x))
		}
		l.rows = append(l.rows, row)
	}
	return l
}

func blank(rows, cols int) table {
	l := table{cols: cols}
	for range rows {
		row := make([]*big.Int, cols)
		for j := range row {
			row[j] = new(big.Int)
		}
		l.rows = append(l.rows, row)
	}
	return l
}

func mul(a, b table) table {
	m := blank(len(a.rows), b.cols)
	for i, row := range m.rows {
		for j, x := range row {
			for k := range b.rows {
				x.Add(x, new(big.Int).Mul(a.rows[i][k], b.rows[k][j]))
			}
		}
	}
	return m
}

// detOf returns the determinant of a square matrix by fractions.
func detOf(a table) *big.Int {
	var m [][]*big.Rat
	for _, row := range a.rows {
		var l []*big.Rat
		for _, x := range row {
			l = append(l, new(big.Rat).SetInt(x))
		}
		m = append(m, l)
	}
	det := big.NewRat(1, 1)
	for col := range m {
		i := col
		for i < len(m) && m[i][col].Sign() == 0 {
			i++
		}
		if i == len(m) {
			return new(big.Int)
		}
		if i > col {
			m[col], m[i] = m[i], m[col]
			det.Neg(det)
		}
		det.Mul(det, m[col][col])
		for _, row := range m[col+1:] {
			c := new(big.Rat).Quo(row[col], m[col][col])
			for j, x := range row {
				x.Sub(x, new(big.Rat).Mul(c, m[col][j]))
			}
		}
	}
	return det.Num()
}

// rankOf returns the rank: the greatest size of a minor that is not 0.
func rankOf(a table) int {
	n := 0
	for minorsOf(a, n+1).Sign() != 0 {
		n++
	}
	return n
}

// minorsOf returns the greatest common divisor of the k by k minors (0 if there are none).
func minorsOf(a table, k int) *big.Int {
	g := new(big.Int)
	for _, rows := range choices(len(a.rows), k) {
		for _, cols := range choices(a.cols, k) {
			var minor table
			for _, i := range rows {
				var row []*big.Int
				for _, j := range cols {
					row = append(row, a.rows[i][j])
				}
				minor.rows = append(minor.rows, row)
			}
			g.GCD(nil, nil, g, new(big.Int).Abs(detOf(minor)))
		}
	}
	return g
}

// choices returns the ascending lists of k numbers less than n.
func choices(n, k int) [][]int {
	if k == 0 {
		return [][]int{nil}
	}
	var l [][]int
	for last := k - 1; last < n; last++ {
		for _, c := range choices(last, k-1) {
			l = append(l, append(slices.Clone(c), last))
		}
	}
	return l
}

// of returns the matrix with rows of small integers; cols is only looked at without rows.
func of(cols int, rows ...[]int) api.ZMatrix {
	m := api.ZMatrix{Rows: len(rows), Cols: cols}
	for _, row := range rows {
		m.Cols = len(row)
		m.A = append(m.A, integers(row...)...)
	}
	return m
}

// integers returns a list of small integers.
func integers(l ...int) []api.Int {
	var out []api.Int
	for _, x := range l {
		out = append(out, bigint.Of(x))
	}
	return out
}

// randomInt returns an integer of up to n digits, sometimes with leading zeros or a minus sign of zero.
func randomInt(r *rand.Rand, n int) api.Int {
	mag := make([]uint32, r.Intn(n+1))
	for i := range mag {
		switch r.Intn(3) {
		case 0:
			mag[i] = uint32(r.Intn(7))
		case 1:
			mag[i] = math.MaxUint32
		default:
			mag[i] = r.Uint32()
		}
	}
	return api.Int{Neg: r.Intn(2) == 0, Mag: mag}
}

// random returns a matrix of one of several kinds.
func random(r *rand.Rand, rows, cols int) api.ZMatrix {
	m := api.ZMatrix{Rows: rows, Cols: cols, A: make([]api.Int, rows*cols)}
	kind := r.Intn(5)
	for i := range m.A {
		switch kind {
		case 0:
			m.A[i] = bigint.Of(r.Intn(3) - 1)
		case 1:
			m.A[i] = bigint.Of(r.Intn(2) * r.Intn(2) * (r.Intn(19) - 9))
		case 2:
			m.A[i] = randomInt(r, 3)
		case 3:
			m.A[i] = bigint.Of(6 * (r.Intn(9) - 4))
		default:
			m.A[i] = bigint.Of(r.Intn(199) - 99)
		}
	}
	return m
}

// product returns a * b.
func product(a, b api.ZMatrix) api.ZMatrix {
	m := api.ZMatrix{Rows: a.Rows, Cols: b.Cols, A: make([]api.Int, a.Rows*b.Cols)}
	for i := range a.Rows {
		for j := range b.Cols {
			for k := range b.Rows {
				m.A[i*b.Cols+j] = bigint.Add(m.A[i*b.Cols+j], bigint.Mul(a.A[i*a.Cols+k], b.A[k*b.Cols+j]))
			}
		}
	}
	return m
}

// stack returns the matrix with the rows of both.
func stack(a, b api.ZMatrix) api.ZMatrix {
	return api.ZMatrix{Rows: a.Rows + b.Rows, Cols: a.Cols, A: slices.Concat(a.A, b.A)}
}

// various calls do with matrices of many sizes and ranks.
func various(seed int64, count int, do func(r *rand.Rand, m api.ZMatrix)) {
	r := rand.New(rand.NewSource(seed))
	for i := range count {
		rows, cols := r.Intn(6), r.Intn(6)
		m := random(r, rows, cols)
		if i%3 == 0 {
			k := r.Intn(min(rows, cols) + 1)
			m = product(random(r, rows, k), random(r, k, cols))
		}
		do(r, m)
	}
}

// check reports integers that are not normalized or not those of a table.
func check(t *testing.T, what string, got api.ZMatrix, e api.Errno, want table) {
	t.Helper()
	if e != api.OK || got.Rows != len(want.rows) || got.Cols != want.cols || len(got.A) != got.Rows*got.Cols {
		t.Fatalf("%s = %v, %d, want %v", what, got, e, want)
	}
	for i, row := range want.rows {
		for j, x := range row {
			if y := got.A[i*got.Cols+j]; !normalized(y) || toInt(y).Cmp(x) != 0 {
				t.Fatalf("%s = %v, want %v", what, got, want)
			}
		}
	}
}

// normalized reports whether an integer has no leading zeros and is not a negative zero.
func normalized(a api.Int) bool {
	n := len(a.Mag)
	return n == 0 && !a.Neg || n > 0 && a.Mag[n-1] != 0
}

// isZero reports whether a result beside an error is the zero value.
func isZero(m api.ZMatrix) bool {
	return m.Rows == 0 && m.Cols == 0 && len(m.A) == 0
}

// text returns what a list of integers consists of, whatever their values.
func text(l []api.Int) string {
	var b strings.Builder
	for _, n := range l {
		if n.Neg {
			b.WriteString("-")
		}
		for _, d := range n.Mag {
			b.WriteString(big.NewInt(int64(d)).String() + ",")
		}
		b.WriteString(";")
	}
	return b.String()
}

// checkMemory reports integers of a result that share memory with each other, which is
// seen by writing into them one by one.
func checkMemory(t *testing.T, what string, l []api.Int) {
	t.Helper()
	for i := range l {
		before := text(l[i+1:])
		digits := l[i].Mag[:cap(l[i].Mag)]
		for k := range digits {
			digits[k] = 0xDEADBEEF
		}
		if text(l[i+1:]) != before {
			t.Fatal(what, "two elements share memory", i)
		}
	}
}
