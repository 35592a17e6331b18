package degeneracy_test

import (
	"math/rand"
	"reflect"
	"slices"
	"testing"

	"halfplane/api"
	"halfplane/arith"
	"halfplane/matrix"
	"halfplane/rational"
	"halfplane/symbols"
)

// spec names a space.
func spec(level, weight, disc int) api.Spec {
	return api.Spec{Level: level, Weight: weight, Disc: disc}
}

// spaces returns valid spaces of all kinds, with and without old forms.
func spaces() []api.Spec {
	return []api.Spec{
		spec(1, 2, 1), spec(1, 12, 1), spec(2, 2, 1), spec(2, 4, 1), spec(2, 12, 1), spec(3, 3, -3), spec(4, 5, -4), spec(8, 5, -4), spec(8, 6, 1), spec(9, 5, -3),
		spec(10, 4, 5), spec(6, 8, 1), spec(7, 3, -7), spec(8, 4, 8), spec(8, 3, -8), spec(9, 4, 1), spec(11, 2, 1), spec(12, 5, -3), spec(24, 2, 12), spec(16, 4, 1),
		spec(12, 5, -4), spec(26, 2, 13), spec(15, 3, -15), spec(21, 3, -7), spec(20, 3, -20), spec(22, 2, 1), spec(33, 2, 1), spec(30, 2, 1), spec(44, 2, 1), spec(45, 2, 1), spec(60, 2, 1),
	}
}

// module returns the module of a valid space.
func module(t *testing.T, s api.Spec) *symbols.Module {
	t.Helper()
	m, e := symbols.New(s)
	if e != api.OK {
		t.Fatalf("New(%v): %d", s, e)
	}
	return m
}

// A pair is a module and one of a lower level.
type pair struct{ m, l *symbols.Module }

// pairs returns all modules of lower levels, and the module itself, for each of the spaces.
func pairs(t *testing.T) []pair {
	t.Helper()
	var list []pair
	for _, s := range spaces() {
		m := module(t, s)
		for level := 1; level <= s.Level; level++ {
			if s.Level%level == 0 && level%s.Disc == 0 {
				list = append(list, pair{m, module(t, spec(level, s.Weight, s.Disc))})
			}
		}
	}
	return list
}

// randomPath returns a path of a space.
func randomPath(r *rand.Rand, s api.Spec) api.Path {
	cusp := func() api.Cusp {
		for {
			c := api.Cusp{P: r.Intn(81) - 40, Q: r.Intn(40)}
			if arith.Gcd(c.P, c.Q) == 1 && (c.Q > 0 || c.P == 1) {
				return c
			}
		}
	}
	p := api.Path{From: cusp(), To: cusp()}
	for range s.Weight - 1 {
		x, _ := rational.Quo(rational.Of(r.Intn(41)-20), rational.Of(1+r.Intn(6)))
		p.Poly = append(p.Poly, x)
	}
	return p
}

// product returns a b.
func product(t *testing.T, a, b api.Matrix) api.Matrix {
	t.Helper()
	x, e := matrix.Mul(a, b)
	if e != api.OK {
		t.Fatal(e)
	}
	return x
}

// sameRats reports whether normalized fractions have the same fields.
func sameRats(a, b []api.Rat) bool {
	return slices.EqualFunc(a, b, func(x, y api.Rat) bool {
		return x.Num.Neg == y.Num.Neg && slices.Equal(x.Num.Mag, y.Num.Mag) && x.Den.Neg == y.Den.Neg && slices.Equal(x.Den.Mag, y.Den.Mag)
	})
}

// same reports whether matrices are equal.
func same(a, b api.Matrix) bool {
	return a.Rows == b.Rows && a.Cols == b.Cols && sameRats(a.A, b.A)
}

// expectError checks that a result is an error with a zero value beside it.
func expectError(t *testing.T, name string, got any, e, want api.Errno) {
	t.Helper()
	if e != want || !reflect.ValueOf(got).IsZero() {
		t.Errorf("%s: %v, %d; want error %d", name, got, e, want)
	}
}

// spoil overwrites the memory of a fraction.
func spoil(x api.Rat) {
	for _, mag := range [][]uint32{x.Num.Mag, x.Den.Mag} {
		mag = mag[:cap(mag)]
		for k := range mag {
			mag[k] = 77
		}
	}
}
