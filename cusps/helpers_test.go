package cusps_test

import (
	"math"
	"math/rand"
	"testing"

	"halfplane/api"
	"halfplane/arith"
	"halfplane/permutation"
	"halfplane/sl2"
	"halfplane/subgroup"
)

const top = api.MaxEntry

var infinity = api.Cusp{P: 1, Q: 0}

// noLevels are numbers that are no levels.
var noLevels = []int{0, -1, -120, api.MaxLevel + 1, math.MaxInt, math.MinInt}

// noCusps are values that are no cusps of the functions, with their errors.
var noCusps = map[api.Cusp]api.Errno{
	{}: api.ErrForm, {P: -1, Q: 0}: api.ErrForm, {P: 2, Q: 0}: api.ErrForm, {P: 2, Q: 4}: api.ErrForm, {P: 0, Q: 2}: api.ErrForm, {P: 2000, Q: 1002}: api.ErrForm, {P: 1001, Q: 0}: api.ErrForm,
	{P: 1, Q: -1}: api.ErrRange, {P: top + 1, Q: 1}: api.ErrRange, {P: 1, Q: top + 1}: api.ErrRange, {P: math.MinInt, Q: math.MinInt}: api.ErrRange, {P: math.MaxInt, Q: math.MaxInt}: api.ErrRange,
	{P: 1001, Q: 1}: api.ErrRange, {P: -1001, Q: 1}: api.ErrRange, {P: 1, Q: 1001}: api.ErrRange, {P: 2, Q: 1001}: api.ErrRange, {P: 0, Q: 1001}: api.ErrForm, {P: top, Q: 1}: api.ErrRange,
}

// malformed are values that are no coset actions, with the error of permutation.Check.
var malformed = []struct {
	a    api.CosetAction
	want api.Errno
}{
	{api.CosetAction{}, api.ErrRange}, {api.CosetAction{S: make([]int, api.MaxIndex+1)}, api.ErrRange}, {api.CosetAction{S: []int{0}}, api.ErrShape}, {api.CosetAction{S: []int{1}, T: []int{0}}, api.ErrForm},
	{api.CosetAction{S: []int{0, 1}, T: []int{0, 1}}, api.ErrForm}, {api.CosetAction{S: []int{0, 1}, T: []int{1, 0}}, api.ErrForm}, {api.CosetAction{S: []int{0}, T: []int{-1}}, api.ErrForm},
}

func times(x, y api.Mat2) api.Mat2 {
	return api.Mat2{A: x.A*y.A + x.B*y.C, B: x.A*y.B + x.B*y.D, C: x.C*y.A + x.D*y.C, D: x.C*y.B + x.D*y.D}
}

func inverse(m api.Mat2) api.Mat2 {
	return api.Mat2{A: m.D, B: -m.B, C: -m.C, D: m.A}
}

// gcd is Euclid's algorithm, for comparison.
func gcd(a, b int) int {
	for b != 0 {
		a, b = b, a%b
	}
	return max(a, -a)
}

func mod(a, n int) int {
	return (a%n + n) % n
}

// divisors returns the divisors of n.
func divisors(n int) []int {
	var l []int
	for d := 1; d <= n; d++ {
		if n%d == 0 {
			l = append(l, d)
		}
	}
	return l
}

// matrix follows the definition of the matrix of a cusp.
func matrix(c api.Cusp) api.Mat2 {
	for d := 0; d < c.Q; d++ {
		if (c.P*d-1)%c.Q == 0 {
			return api.Mat2{A: c.P, B: (c.P*d - 1) / c.Q, C: c.Q, D: d}
		}
	}
	return api.Mat2{A: 1, D: 1}
}

// random returns a matrix of Gamma0(n).
func random(r *rand.Rand, n int) api.Mat2 {
	m := api.Mat2{A: 1, D: 1}
	if r.Intn(2) == 0 {
		m = api.Mat2{A: -1, D: -1}
	}
	for range r.Intn(3) {
		m = times(m, api.Mat2{A: 1, B: r.Intn(5) - 2, D: 1})
		// The lower row of another matrix of Gamma0(n).
		c, d := n*(r.Intn(3)-1), r.Intn(7)-3
		if g, a, b, _ := arith.Xgcd(d, -c); g == 1 {
			m = times(m, api.Mat2{A: a, B: b, C: c, D: d})
		}
	}
	return m
}

// someCusps returns infinity, cusps with small numbers, and cusps at the limits.
func someCusps(r *rand.Rand, n int) []api.Cusp {
	l := []api.Cusp{infinity, {P: 0, Q: 1}, {P: 1000, Q: 1}, {P: -1000, Q: 999}, {P: 999, Q: 1000}, {P: -999, Q: 1000}, {P: 1, Q: 1000}}
	for len(l) < n {
		c, e := sl2.Reduce(r.Intn(81)-40, r.Intn(130))
		if len(l)%3 == 0 {
			c, e = sl2.Reduce(r.Intn(2001)-1000, r.Intn(1001))
		}
		if e == api.OK {
			l = append(l, c)
		}
	}
	return l
}

// of is subgroup.Of, which must not fail.
func of(t *testing.T, k api.GroupKind, n int) api.CosetAction {
	t.Helper()
	a, e := subgroup.Of(api.Group{Kind: k, Level: n})
	if e != api.OK {
		t.Fatal(k, n, e)
	}
	return a
}

// samples returns actions of all sorts.
func samples(t *testing.T) []api.CosetAction {
	t.Helper()
	cyclic := api.CosetAction{S: []int{9, 10, 11, 0, 1, 2, 3, 4, 5, 6, 7, 8}, T: []int{1, 2, 3, 4, 5, 6, 7, 8, 9, 10, 11, 0}} // abelian classes
	seven := api.CosetAction{S: []int{1, 0, 3, 2, 6, 5, 4}, T: []int{2, 3, 4, 5, 6, 1, 0}}
	four := api.CosetAction{S: []int{1, 2, 3, 0}, T: []int{1, 2, 3, 0}}
	l := []api.CosetAction{cyclic, seven, four}
	for n := 1; n <= 20; n++ {
		l = append(l, of(t, api.Gamma0, n), of(t, api.Gamma1, n), of(t, api.GammaUp0, n))
		if n <= 6 {
			l = append(l, of(t, api.GammaFull, n))
		}
	}
	for _, a := range l {
		for _, b := range []api.CosetAction{seven, four} {
			if both, e := permutation.Intersect(a, b); e == api.OK && len(both.S) < 300 {
				l = append(l, both)
			}
		}
	}
	for _, a := range l[:20] {
		based, _ := permutation.Base(a, len(a.S)-1)
		l = append(l, based)
	}
	return l
}
