package eigen_test

import (
	"math/big"
	"math/rand"
	"slices"
	"strings"
	"testing"

	"halfplane/api"
	"halfplane/bigint"
	"halfplane/matrix"
	"halfplane/numfield"
	"halfplane/qpoly"
	"halfplane/rational"
	"halfplane/zpoly"
)

var minusZero = api.Int{Neg: true, Mag: []uint32{0, 0}}

// parse returns the fractions in a text.
func parse(s string) []api.Rat {
	var l []api.Rat
	for _, word := range strings.Fields(s) {
		x, e := rational.Parse(word)
		if e != api.OK {
			panic(word)
		}
		l = append(l, x)
	}
	return l
}

// of returns the matrix whose elements are the numbers in a text.
func of(rows int, s string) api.Matrix {
	l := parse(s)
	m := api.Matrix{Rows: rows, A: l}
	if rows > 0 {
		m.Cols = len(l) / rows
	}
	return m
}

// elements returns the matrix, or vector, of the elements in a text, with commas between
// them and spaces between their coordinates.
func elements(rows int, s string) api.NMatrix {
	m := api.NMatrix{Rows: rows}
	for _, word := range strings.Split(s, ",") {
		m.A = append(m.A, parse(word))
	}
	m.Cols = len(m.A) / rows
	return m
}

// modulus returns the field, or ring, with the modulus of a text.
func modulus(s string) api.Field {
	f, e := zpoly.Parse(s)
	if e != api.OK {
		panic(s)
	}
	return api.Field{Modulus: f}
}

// text returns the digits of an element as they are, which also shows whether it is
// normalized.
func text(l ...api.Rat) string {
	var b strings.Builder
	for _, x := range l {
		for _, n := range []api.Int{x.Num, x.Den} {
			if n.Neg {
				b.WriteString("-")
			}
			for _, d := range n.Mag {
				b.WriteString(big.NewInt(int64(d)).String() + ",")
			}
			b.WriteString(";")
		}
	}
	return b.String()
}

// textOf returns the digits of all elements as they are.
func textOf(l ...api.Elem) string {
	var b strings.Builder
	for _, x := range l {
		b.WriteString(text(x...) + "\n")
	}
	return b.String()
}

// normal returns the matrix with the same elements, normalized.
func normal(k api.Field, a api.NMatrix) api.NMatrix {
	m := api.NMatrix{Rows: a.Rows, Cols: a.Cols}
	for _, x := range a.A {
		y, _ := numfield.Normal(k, x)
		m.A = append(m.A, y)
	}
	return m
}

// check reports a matrix that is not normalized or not the one expected.
func check(t *testing.T, what string, got api.NMatrix, e api.Errno, want api.NMatrix) {
	t.Helper()
	if e != api.OK || got.Rows != want.Rows || got.Cols != want.Cols || len(got.A) != len(want.A) || textOf(got.A...) != textOf(want.A...) {
		t.Fatalf("%s = %v, %d, want %v", what, got, e, want)
	}
}

// expanded returns the matrix of rational numbers in which every element is replaced by
// its multiplication matrix. The coordinates of x * a, one after the other, are those of
// x times this matrix.
func expanded(k api.Field, a api.NMatrix) api.Matrix {
	d := zpoly.Degree(k.Modulus)
	m, _ := matrix.New(a.Rows*d, a.Cols*d)
	for i, x := range a.A {
		block, _ := numfield.Multiplication(k, x)
		for j, y := range block.A {
			row, col := i/a.Cols*d+j/d, i%a.Cols*d+j%d
			m.A[row*m.Cols+col] = y
		}
	}
	return m
}

// checkExpanded reports a matrix that is not normalized, or whose expanded matrix is not
// the one expected.
func checkExpanded(t *testing.T, what string, k api.Field, got api.NMatrix, e api.Errno, want api.Matrix) {
	t.Helper()
	check(t, what, got, e, normal(k, got))
	m := expanded(k, got)
	if m.Rows != want.Rows || m.Cols != want.Cols || text(m.A...) != text(want.A...) {
		t.Fatalf("%s = %v, want %v", what, got, want)
	}
}

// fields are fields of several degrees, and rings are rings that are not fields.
var (
	fields = []string{"x - 3", "x^2 - 2", "x^2 + x + 1", "x^3 - 2", "x^4 - 10*x^2 + 1", "x^6 + x^3 + 1", "x^12 - x - 1"}
	rings  = []string{"x^2", "x^2 - 1", "x^3 - x", "x^4 - 4"}
)

// random returns a matrix of one of several kinds, whose elements are not normalized.
func random(r *rand.Rand, k api.Field, rows, cols int) api.NMatrix {
	m := api.NMatrix{Rows: rows, Cols: cols}
	d := zpoly.Degree(k.Modulus)
	kind := r.Intn(3)
	for range rows * cols {
		var x api.Elem
		for range r.Intn(d + 2) {
			switch kind {
			case 0:
				x = append(x, rational.Of(r.Intn(5)-2))
			case 1:
				x = append(x, api.Rat{Num: bigint.Of(r.Intn(19) - 9), Den: bigint.Of(r.Intn(7) - 3)})
			default:
				x = append(x, rational.Of(r.Intn(2)*r.Intn(2)*(r.Intn(9)-4)))
			}
		}
		m.A = append(m.A, x)
	}
	return m
}

// conjugated returns a matrix that is similar to a.
func conjugated(r *rand.Rand, a api.Matrix) api.Matrix {
	for {
		c, _ := matrix.New(a.Rows, a.Rows)
		for i := range c.A {
			c.A[i] = rational.Of(r.Intn(5) - 2)
		}
		inverse, e := matrix.Inverse(c)
		if e == api.OK {
			m, _ := matrix.Mul(inverse, a)
			m, _ = matrix.Mul(m, c)
			return m
		}
	}
}

// blocks returns the matrix with these blocks in its diagonal.
func blocks(l ...api.Matrix) api.Matrix {
	n := 0
	for _, b := range l {
		n += b.Rows
	}
	m, _ := matrix.New(n, n)
	at := 0
	for _, b := range l {
		for i, x := range b.A {
			m.A[(at+i/b.Cols)*n+at+i%b.Cols] = x
		}
		at += b.Rows
	}
	return m
}

// power returns f to the power n as a polynomial over the rational numbers.
func power(f api.ZPoly, n int) api.Poly {
	g := parse("1")
	for range n {
		g = qpoly.Mul(g, qpoly.Of(f))
	}
	return g
}

// overwrite writes into all digits of an integer, up to the capacity.
func overwrite(a api.Int) {
	for i := range a.Mag[:cap(a.Mag)] {
		a.Mag[:cap(a.Mag)][i] = 0xDEADBEEF
	}
}

// checkMemory reports elements of results that share memory with each other, which is
// seen by writing into them one by one.
func checkMemory(t *testing.T, l []api.Elem) {
	t.Helper()
	for i, x := range l {
		before := textOf(l[i+1:]...)
		for j := range x {
			rest := text(x[j+1:]...)
			den := text(api.Rat{Den: x[j].Den})
			overwrite(x[j].Num)
			if text(api.Rat{Den: x[j].Den}) != den {
				t.Fatal("a numerator shares memory with its denominator")
			}
			overwrite(x[j].Den)
			if text(x[j+1:]...) != rest {
				t.Fatal("two coordinates share memory")
			}
		}
		for j := range x[:cap(x)] {
			x[:cap(x)][j] = api.Rat{Num: bigint.Of(77)}
		}
		if textOf(l[i+1:]...) != before {
			t.Fatal("two elements share memory")
		}
	}
}

// clone returns a list with the same elements.
func clone(l []api.Elem) []api.Elem {
	return slices.Clone(l)
}
