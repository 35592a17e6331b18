package periods_test

import (
	"math/rand"
	"reflect"
	"slices"
	"testing"

	"halfplane/api"
	"halfplane/arith"
	"halfplane/newform"
	"halfplane/paths"
	"halfplane/periods"
	"halfplane/rational"
	"halfplane/symbols"
	"halfplane/zpoly"
)

// spec names a space.
func spec(level, weight, disc int) api.Spec {
	return api.Spec{Level: level, Weight: weight, Disc: disc}
}

// sample is the period map of an orbit with a sign.
type sample struct {
	f       *newform.Forms
	i, sign int
	m       *symbols.Module
	p       *periods.Periods
}

// made are the period maps that were made.
var made = map[api.Spec][]sample{}

// cases returns the period maps of the rational newforms of a space.
func cases(t *testing.T, s api.Spec) []sample {
	t.Helper()
	if l := made[s]; l != nil {
		return l
	}
	f, e := newform.New(s)
	if e != api.OK {
		t.Fatalf("New(%v): %d", s, e)
	}
	m, e := symbols.New(s)
	if e != api.OK {
		t.Fatal(s, e)
	}
	var l []sample
	for i := range f.Count() {
		if k, _ := f.Field(i); zpoly.Degree(k.Modulus) != 1 {
			continue
		}
		for _, sign := range []int{1, -1} {
			p, e := periods.New(f, i, sign)
			if e != api.OK || p == nil {
				t.Fatalf("New(%v, %d, %d): %v, %d", s, i, sign, p, e)
			}
			l = append(l, sample{f, i, sign, m, p})
		}
	}
	if len(l) == 0 {
		t.Fatal(s, "has no rational newform")
	}
	made[s] = l
	return l
}

// weightTwo returns spaces of weight 2 with rational newforms.
func weightTwo() []api.Spec {
	return []api.Spec{
		spec(11, 2, 1), spec(14, 2, 1), spec(15, 2, 1), spec(24, 2, 1), spec(26, 2, 1), spec(27, 2, 1), spec(30, 2, 1), spec(32, 2, 1), spec(36, 2, 1), spec(37, 2, 1), spec(43, 2, 1), spec(49, 2, 1), spec(57, 2, 1), spec(66, 2, 1), spec(90, 2, 1), spec(112, 2, 1),
	}
}

// spaces returns spaces of all kinds with rational newforms.
func spaces() []api.Spec {
	return append(weightTwo(), spec(1, 12, 1), spec(1, 16, 1), spec(1, 22, 1), spec(2, 8, 1), spec(3, 6, 1), spec(4, 6, 1), spec(5, 4, 1), spec(6, 4, 1), spec(9, 4, 1), spec(12, 4, 1), spec(15, 4, 1), spec(2, 16, 1),
		spec(7, 3, -7), spec(8, 3, -8), spec(4, 5, -4), spec(3, 7, -3), spec(15, 3, -15), spec(16, 3, -4), spec(12, 3, -3), spec(20, 3, -20), spec(27, 3, -3))
}

// chi returns the character of a space.
func chi(s api.Spec, n int) int {
	if arith.Gcd(n, s.Level) != 1 {
		return 0
	}
	return arith.Kronecker(s.Disc, n)
}

// value is p.Value, which must not fail.
func value(t *testing.T, c sample, x api.Path) api.Rat {
	t.Helper()
	v, e := c.p.Value(x)
	if e != api.OK {
		t.Fatalf("Value(%v, %v): %d", c.f.Spec(), x, e)
	}
	return v
}

// at is p.At, which must not fail.
func at(t *testing.T, c sample, p, q, j int) api.Rat {
	t.Helper()
	v, e := c.p.At(api.Cusp{P: p, Q: q}, j)
	if e != api.OK {
		t.Fatalf("At(%v, %d/%d, %d): %d", c.f.Spec(), p, q, j, e)
	}
	return v
}

// image returns the image of a path under a matrix.
func image(t *testing.T, x api.Path, g api.Mat2) api.Path {
	t.Helper()
	y, e := paths.Translate(x, g)
	if e != api.OK {
		t.Fatalf("Translate(%v, %v): %d", x, g, e)
	}
	return y
}

// pairing returns the sum of the products of the elements of two lists.
func pairing(a, b []api.Rat) api.Rat {
	sum := rational.Of(0)
	for i, x := range a {
		sum = rational.Add(sum, rational.Mul(x, b[i]))
	}
	return sum
}

// randomCusp returns a cusp.
func randomCusp(r *rand.Rand) api.Cusp {
	for {
		c := api.Cusp{P: r.Intn(81) - 40, Q: r.Intn(40)}
		if arith.Gcd(c.P, c.Q) == 1 && (c.Q > 0 || c.P == 1) {
			return c
		}
	}
}

// randomPath returns a path of a space.
func randomPath(r *rand.Rand, s api.Spec) api.Path {
	p := api.Path{From: randomCusp(r), To: randomCusp(r)}
	for range s.Weight - 1 {
		x, _ := rational.Quo(rational.Of(r.Intn(41)-20), rational.Of(1+r.Intn(6)))
		p.Poly = append(p.Poly, x)
	}
	return p
}

// randomMatrix returns a matrix of Gamma0(n).
func randomMatrix(r *rand.Rand, n int) api.Mat2 {
	for {
		c, d := n*(r.Intn(9)-4), r.Intn(61)-30
		g, u, v, _ := arith.Xgcd(c, d)
		if g == 1 {
			// u c + v d = 1
			return api.Mat2{A: v, B: -u, C: c, D: d}
		}
	}
}

// same reports whether normalized fractions have the same fields.
func same(a, b api.Rat) bool {
	return a.Num.Neg == b.Num.Neg && slices.Equal(a.Num.Mag, b.Num.Mag) && a.Den.Neg == b.Den.Neg && slices.Equal(a.Den.Mag, b.Den.Mag)
}

// expectError checks that a result is an error with a zero value beside it.
func expectError(t *testing.T, name string, got any, e, want api.Errno) {
	t.Helper()
	if e != want || !reflect.ValueOf(got).IsZero() {
		t.Errorf("%s: %v, %d; want error %d", name, got, e, want)
	}
}
