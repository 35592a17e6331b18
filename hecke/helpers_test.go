package hecke_test

import (
	"math/rand"
	"reflect"
	"slices"
	"testing"

	"halfplane/api"
	"halfplane/arith"
	"halfplane/heilbronn"
	"halfplane/manin"
	"halfplane/matrix"
	"halfplane/rational"
	"halfplane/symbols"
)

const top = api.MaxEntry

// spec names a space.
func spec(level, weight, disc int) api.Spec {
	return api.Spec{Level: level, Weight: weight, Disc: disc}
}

// module returns the module of a valid space.
func module(t *testing.T, s api.Spec) *symbols.Module {
	t.Helper()
	m, e := symbols.New(s)
	if e != api.OK {
		t.Fatalf("New(%v): %d", s, e)
	}
	return m
}

// modules returns the modules of spaces of all kinds.
func modules(t *testing.T) []*symbols.Module {
	t.Helper()
	var l []*symbols.Module
	for _, s := range []api.Spec{
		spec(1, 2, 1), spec(1, 4, 1), spec(1, 12, 1), spec(1, 24, 1), spec(2, 2, 1), spec(2, 8, 1), spec(3, 3, -3), spec(4, 5, -4), spec(4, 3, -4),
		spec(5, 4, 5), spec(6, 4, 1), spec(7, 3, -7), spec(8, 4, 8), spec(8, 3, -8), spec(9, 4, 1), spec(11, 2, 1), spec(12, 3, -3), spec(12, 2, 12),
		spec(12, 5, -4), spec(13, 2, 13), spec(15, 3, -15), spec(16, 2, 8), spec(20, 3, -20), spec(24, 2, 24), spec(23, 2, 1), spec(30, 2, 1), spec(37, 2, 1),
	} {
		l = append(l, module(t, s))
	}
	return l
}

// chi returns the character of a space.
func chi(s api.Spec, n int) int {
	if arith.Gcd(n, s.Level) != 1 {
		return 0
	}
	return arith.Kronecker(s.Disc, n)
}

// byApply returns the matrix of the operator of a list, as the sum of manin.Apply for all
// matrices.
func byApply(t *testing.T, m *symbols.Module, l []api.Mat2) api.Matrix {
	t.Helper()
	count, _ := manin.Count(m.Spec())
	var rows [][]api.Rat
	for _, n := range m.Free() {
		sum := make([]api.Rat, count)
		for _, g := range l {
			image, e := manin.Apply(m.Spec(), n, g)
			if e != api.OK {
				t.Fatalf("Apply(%v, %d, %v): %d", m.Spec(), n, g, e)
			}
			for i, x := range image {
				sum[i] = rational.Add(sum[i], rational.Whole(x))
			}
		}
		row, e := m.Vector(sum)
		if e != api.OK {
			t.Fatal(m.Spec(), e)
		}
		rows = append(rows, row)
	}
	a, e := matrix.FromRows(m.Dim(), rows)
	if e != api.OK {
		t.Fatal(m.Spec(), e)
	}
	return a
}

// lists returns lists that satisfy Merel's condition.
func lists(t *testing.T, n int) [][]api.Mat2 {
	t.Helper()
	merel, e := heilbronn.Merel(n)
	if e != api.OK {
		t.Fatal(n, e)
	}
	l := [][]api.Mat2{merel}
	for _, choices := range [][]int{nil, {1}, {0, 1, 1}} {
		c, e := heilbronn.Chains(n, choices)
		if e != api.OK {
			t.Fatal(n, e)
		}
		l = append(l, c)
	}
	if c, e := heilbronn.Cremona(n); e == api.OK {
		l = append(l, c)
	}
	return l
}

// product returns a b, and sum a + c b.
func product(t *testing.T, a, b api.Matrix) api.Matrix {
	t.Helper()
	x, e := matrix.Mul(a, b)
	if e != api.OK {
		t.Fatal(e)
	}
	return x
}

func sum(t *testing.T, a api.Matrix, c api.Rat, b api.Matrix) api.Matrix {
	t.Helper()
	multiple, _ := matrix.Scale(b, c)
	x, e := matrix.Add(a, multiple)
	if e != api.OK {
		t.Fatal(e)
	}
	return x
}

// sameRats reports whether normalized fractions have the same fields.
func sameRats(a, b []api.Rat) bool {
	return slices.EqualFunc(a, b, func(x, y api.Rat) bool {
		return x.Num.Neg == y.Num.Neg && slices.Equal(x.Num.Mag, y.Num.Mag) && x.Den.Neg == y.Den.Neg && slices.Equal(x.Den.Mag, y.Den.Mag)
	})
}

// same reports whether matrices are equal.
func same(a, b api.Matrix) bool {
	return a.Rows == b.Rows && a.Cols == b.Cols && sameRats(a.A, b.A)
}

// number returns the matrix of one row and one column.
func number(n int) api.Matrix {
	return api.Matrix{Rows: 1, Cols: 1, A: []api.Rat{rational.Of(n)}}
}

// disguise returns a space whose elements are not normalized.
func disguise(r *rand.Rand, s api.Space) api.Space {
	l := make([]api.Rat, len(s.Basis.A))
	for i, x := range s.Basis.A {
		factor := rational.Of(1 + r.Intn(9))
		num, den := rational.Mul(rational.Whole(x.Num), factor), rational.Mul(rational.Whole(x.Den), factor)
		l[i] = api.Rat{Num: num.Num, Den: den.Num}
		l[i].Num.Mag = append(l[i].Num.Mag, 0)
		l[i].Num.Neg = !l[i].Num.Neg
		l[i].Den.Neg = true
		if rational.Sign(x) == 0 && r.Intn(2) == 0 {
			l[i] = api.Rat{}
		}
	}
	return api.Space{Dim: s.Dim, Basis: api.Matrix{Rows: s.Basis.Rows, Cols: s.Basis.Cols, A: l}}
}

// expectError checks that a result is an error with a zero value beside it.
func expectError(t *testing.T, name string, got any, e, want api.Errno) {
	t.Helper()
	if e != want || !reflect.ValueOf(got).IsZero() {
		t.Errorf("%s: %v, %d; want error %d", name, got, e, want)
	}
}

// spoil overwrites the memory of a fraction.
func spoil(x api.Rat) {
	for _, mag := range [][]uint32{x.Num.Mag, x.Den.Mag} {
		mag = mag[:cap(mag)]
		for k := range mag {
			mag[k] = 77
		}
	}
}
