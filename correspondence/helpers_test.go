package correspondence_test

import (
	"math/rand"
	"reflect"
	"slices"
	"testing"

	"halfplane/api"
	"halfplane/arith"
	"halfplane/rational"
	"halfplane/symbols"
)

const top = api.MaxEntry

var infinity, null = api.Cusp{P: 1, Q: 0}, api.Cusp{P: 0, Q: 1}

// noIndices are numbers that are no indices of Hecke operators.
var noIndices = []int{0, -1, -2, api.MaxHecke + 1, 131, -1 << 63, 1<<63 - 1}

// spec names a space.
func spec(level, weight, disc int) api.Spec {
	return api.Spec{Level: level, Weight: weight, Disc: disc}
}

// spaces returns valid spaces of all kinds.
func spaces() []api.Spec {
	return []api.Spec{
		spec(1, 2, 1), spec(1, 4, 1), spec(1, 12, 1), spec(1, 24, 1), spec(2, 2, 1), spec(2, 8, 1), spec(3, 3, -3), spec(4, 5, -4), spec(4, 3, -4),
		spec(5, 4, 5), spec(6, 4, 1), spec(7, 3, -7), spec(8, 4, 8), spec(8, 3, -8), spec(9, 4, 1), spec(11, 2, 1), spec(12, 3, -3), spec(12, 2, 12),
		spec(12, 5, -4), spec(13, 2, 13), spec(15, 3, -15), spec(16, 2, 8), spec(20, 3, -20), spec(24, 2, 24), spec(23, 2, 1), spec(30, 2, 1), spec(37, 2, 1),
	}
}

// wrong returns a space for each error of dimension.Check.
func wrong() []api.Spec {
	return []api.Spec{
		{}, spec(0, 2, 1), spec(121, 2, 1), spec(1, 1, 1), spec(1, 26, 1), spec(11, 2, 121), spec(5, 2, 2), spec(5, 2, 0), spec(5, 3, -3),
		spec(5, 3, 5), spec(3, 2, -3), spec(119, 24, 1), spec(1, 3, 1),
	}
}

// module returns the module of a valid space.
func module(t *testing.T, s api.Spec) *symbols.Module {
	t.Helper()
	m, e := symbols.New(s)
	if e != api.OK {
		t.Fatalf("New(%v): %d", s, e)
	}
	return m
}

// cosets are the matrices of T_n and their factors, by their definition.
func cosets(s api.Spec, n int) (l []api.Mat2, factors []int) {
	for a := 1; a <= n; a++ {
		for b := range n {
			for d := b + 1; d <= n; d++ {
				if a*d == n && arith.Gcd(a, s.Level) == 1 {
					l = append(l, api.Mat2{A: a, B: b, D: d})
					factors = append(factors, arith.Kronecker(s.Disc, a))
				}
			}
		}
	}
	return l, factors
}

// imageOf returns the cusp to which g maps c.
func imageOf(g api.Mat2, c api.Cusp) api.Cusp {
	p, q := g.A*c.P+g.B*c.Q, g.C*c.P+g.D*c.Q
	d := arith.Gcd(p, q)
	if q < 0 || q == 0 && p < 0 {
		d = -d
	}
	return api.Cusp{P: p / d, Q: q / d}
}

// randomCusp returns a cusp with numbers up to a limit.
func randomCusp(r *rand.Rand, limit int) api.Cusp {
	for {
		c := api.Cusp{P: r.Intn(2*limit+1) - limit, Q: r.Intn(limit + 1)}
		if arith.Gcd(c.P, c.Q) == 1 && (c.Q > 0 || c.P == 1) {
			return c
		}
	}
}

// randomPoly returns n fractions, some of which are not normalized.
func randomPoly(r *rand.Rand, n int) []api.Rat {
	l := make([]api.Rat, n)
	for i := range l {
		x, _ := rational.Quo(rational.Of(r.Intn(41)-20), rational.Of(1+r.Intn(6)))
		factor := rational.Of(1 + r.Intn(3))
		num, den := rational.Mul(rational.Whole(x.Num), factor), rational.Mul(rational.Whole(x.Den), factor)
		l[i] = api.Rat{Num: num.Num, Den: den.Num}
		if r.Intn(2) == 0 {
			l[i].Num.Neg, l[i].Den.Neg = !l[i].Num.Neg, true
			l[i].Den.Mag = append(l[i].Den.Mag, 0)
		}
	}
	return l
}

// randomPath returns a path of a space.
func randomPath(r *rand.Rand, s api.Spec) api.Path {
	return api.Path{Poly: randomPoly(r, s.Weight-1), From: randomCusp(r, 40), To: randomCusp(r, 40)}
}

// valueAt returns the value of a homogeneous polynomial at integers.
func valueAt(poly []api.Rat, x, y int) api.Rat {
	sum := rational.Of(0)
	for i, c := range poly {
		for range i {
			c = rational.Mul(c, rational.Of(x))
		}
		for range len(poly) - 1 - i {
			c = rational.Mul(c, rational.Of(y))
		}
		sum = rational.Add(sum, c)
	}
	return sum
}

// sumOf returns the sum of vectors with n elements.
func sumOf(n int, vectors ...[]api.Rat) []api.Rat {
	sum := make([]api.Rat, n)
	for i := range sum {
		sum[i] = rational.Of(0)
		for _, v := range vectors {
			sum[i] = rational.Add(sum[i], v[i])
		}
	}
	return sum
}

// sameRats reports whether normalized fractions have the same fields.
func sameRats(a, b []api.Rat) bool {
	return slices.EqualFunc(a, b, func(x, y api.Rat) bool {
		return x.Num.Neg == y.Num.Neg && slices.Equal(x.Num.Mag, y.Num.Mag) && x.Den.Neg == y.Den.Neg && slices.Equal(x.Den.Mag, y.Den.Mag)
	})
}

// same reports whether matrices are equal.
func same(a, b api.Matrix) bool {
	return a.Rows == b.Rows && a.Cols == b.Cols && sameRats(a.A, b.A)
}

// expectError checks that a result is an error with a zero value beside it.
func expectError(t *testing.T, name string, got any, e, want api.Errno) {
	t.Helper()
	if e != want || !reflect.ValueOf(got).IsZero() {
		t.Errorf("%s: %v, %d; want error %d", name, got, e, want)
	}
}

// spoil overwrites the memory of a fraction.
func spoil(x api.Rat) {
	for _, mag := range [][]uint32{x.Num.Mag, x.Den.Mag} {
		mag = mag[:cap(mag)]
		for k := range mag {
			mag[k] = 77
		}
	}
}
