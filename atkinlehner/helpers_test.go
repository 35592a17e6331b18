package atkinlehner_test

import (
	"math/rand"
	"reflect"
	"slices"
	"testing"

	"halfplane/api"
	"halfplane/arith"
	"halfplane/matrix"
	"halfplane/rational"
	"halfplane/symbols"
)

// spec names a space.
func spec(level, weight, disc int) api.Spec {
	return api.Spec{Level: level, Weight: weight, Disc: disc}
}

// module returns the module of a valid space.
func module(t *testing.T, s api.Spec) *symbols.Module {
	t.Helper()
	m, e := symbols.New(s)
	if e != api.OK {
		t.Fatalf("New(%v): %d", s, e)
	}
	return m
}

// modules returns modules with the trivial character.
func modules(t *testing.T) []*symbols.Module {
	t.Helper()
	var l []*symbols.Module
	for _, s := range [][2]int{
		{1, 2}, {1, 4}, {1, 12}, {1, 24}, {2, 2}, {2, 4}, {2, 8}, {3, 6}, {4, 6}, {5, 4}, {6, 4}, {6, 8}, {8, 4}, {9, 4}, {10, 4}, {11, 2}, {12, 4}, {14, 2}, {15, 4}, {18, 2}, {20, 2}, {22, 2}, {30, 2}, {36, 2}, {37, 2}, {42, 2}, {60, 2},
	} {
		l = append(l, module(t, spec(s[0], s[1], 1)))
	}
	return l
}

// exact returns the divisors q of n that are prime to n/q.
func exact(n int) []int {
	var l []int
	for q := 1; q <= n; q++ {
		if n%q == 0 && arith.Gcd(q, n/q) == 1 {
			l = append(l, q)
		}
	}
	return l
}

// randomMatrix returns a matrix (q x, y; n z, q w) of determinant q.
func randomMatrix(r *rand.Rand, n, q int) api.Mat2 {
	for {
		x, z := r.Intn(15)-7, r.Intn(15)-7
		// q x w - (n/q) z y is to be 1.
		for w := range n {
			a, c := q*x, n/q*z
			if c != 0 && (a*w-1)%c == 0 {
				return api.Mat2{A: a, B: (a*w - 1) / c, C: n * z, D: q * w}
			}
			if c == 0 && a*w == 1 {
				return api.Mat2{A: a, B: r.Intn(9) - 4, D: q * w}
			}
		}
	}
}

// randomPath returns a path of a space.
func randomPath(r *rand.Rand, s api.Spec) api.Path {
	cusp := func() api.Cusp {
		for {
			c := api.Cusp{P: r.Intn(81) - 40, Q: r.Intn(40)}
			if arith.Gcd(c.P, c.Q) == 1 && (c.Q > 0 || c.P == 1) {
				return c
			}
		}
	}
	p := api.Path{From: cusp(), To: cusp()}
	for range s.Weight - 1 {
		x, _ := rational.Quo(rational.Of(r.Intn(41)-20), rational.Of(1+r.Intn(6)))
		p.Poly = append(p.Poly, x)
	}
	return p
}

// product returns a b.
func product(t *testing.T, a, b api.Matrix) api.Matrix {
	t.Helper()
	x, e := matrix.Mul(a, b)
	if e != api.OK {
		t.Fatal(e)
	}
	return x
}

// multiple returns a multiple of the unit matrix with n rows.
func multiple(n int, c api.Rat) api.Matrix {
	unit, _ := matrix.Identity(n)
	a, _ := matrix.Scale(unit, c)
	return a
}

// power returns q^n.
func power(q, n int) api.Rat {
	x, _ := rational.Pow(rational.Of(q), n)
	return x
}

// sameRats reports whether normalized fractions have the same fields.
func sameRats(a, b []api.Rat) bool {
	return slices.EqualFunc(a, b, func(x, y api.Rat) bool {
		return x.Num.Neg == y.Num.Neg && slices.Equal(x.Num.Mag, y.Num.Mag) && x.Den.Neg == y.Den.Neg && slices.Equal(x.Den.Mag, y.Den.Mag)
	})
}

// same reports whether matrices are equal.
func same(a, b api.Matrix) bool {
	return a.Rows == b.Rows && a.Cols == b.Cols && sameRats(a.A, b.A)
}

// disguise returns a space whose elements are not normalized.
func disguise(r *rand.Rand, s api.Space) api.Space {
	l := make([]api.Rat, len(s.Basis.A))
	for i, x := range s.Basis.A {
		factor := rational.Of(1 + r.Intn(9))
		num, den := rational.Mul(rational.Whole(x.Num), factor), rational.Mul(rational.Whole(x.Den), factor)
		l[i] = api.Rat{Num: num.Num, Den: den.Num}
		l[i].Num.Mag = append(l[i].Num.Mag, 0)
		l[i].Num.Neg = !l[i].Num.Neg
		l[i].Den.Neg = true
		if rational.Sign(x) == 0 && r.Intn(2) == 0 {
			l[i] = api.Rat{}
		}
	}
	return api.Space{Dim: s.Dim, Basis: api.Matrix{Rows: s.Basis.Rows, Cols: s.Basis.Cols, A: l}}
}

// line returns the space of one vector of integers, which is its basis.
func line(x ...int) api.Space {
	s := api.Space{Dim: len(x), Basis: api.Matrix{Rows: 1, Cols: len(x)}}
	for _, n := range x {
		s.Basis.A = append(s.Basis.A, rational.Of(n))
	}
	return s
}

// expectError checks that a result is an error with a zero value beside it.
func expectError(t *testing.T, name string, got any, e, want api.Errno) {
	t.Helper()
	if e != want || !reflect.ValueOf(got).IsZero() {
		t.Errorf("%s: %v, %d; want error %d", name, got, e, want)
	}
}

// spoil overwrites the memory of a fraction.
func spoil(x api.Rat) {
	for _, mag := range [][]uint32{x.Num.Mag, x.Den.Mag} {
		mag = mag[:cap(mag)]
		for k := range mag {
			mag[k] = 77
		}
	}
}
