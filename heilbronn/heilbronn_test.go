package heilbronn_test

import (
	"cmp"
	"math/big"
	"math/rand"
	"slices"
	"testing"

	"halfplane/api"
	"halfplane/heilbronn"
)

func TestMerel(t *testing.T) { // P44.1
	for _, n := range noIndices {
		l, e := heilbronn.Merel(n)
		expectError(t, "Merel", l, e, api.ErrRange)
	}
	for n := 1; n <= 24; n++ {
		var want []api.Mat2
		for a := 1; a <= 2*n; a++ {
			for b := range a {
				for c := range 2 * n {
					for d := c + 1; d <= 2*n; d++ {
						if m := (api.Mat2{A: a, B: b, C: c, D: d}); det(m) == n {
							want = append(want, m)
						}
					}
				}
			}
		}
		if l, e := heilbronn.Merel(n); e != api.OK || !slices.Equal(l, want) {
			t.Errorf("Merel(%d): %v, %d; want %v", n, l, e, want)
		}
	}
	for n := 1; n <= api.MaxHecke; n++ {
		l, e := heilbronn.Merel(n)
		ascend := slices.IsSortedFunc(l, func(x, y api.Mat2) int {
			return cmp.Or(cmp.Compare(x.A, y.A), cmp.Compare(x.B, y.B), cmp.Compare(x.C, y.C), cmp.Compare(x.D, y.D))
		})
		if e != api.OK || !ascend {
			t.Errorf("Merel(%d): %d", n, e)
		}
		for _, m := range l {
			if det(m) != n || m.A <= m.B || m.B < 0 || m.D <= m.C || m.C < 0 {
				t.Errorf("Merel(%d): %v", n, m)
			}
		}
	}
}

// cremona is Cremona's list by its description, with the two numbers beside the matrices.
func cremona(p int) []api.Mat2 {
	l := []api.Mat2{{A: 1, D: p}}
	for r := -(p - 1) / 2; r <= (p-1)/2; r++ {
		x, u, y, v := p, -r, 0, 1
		s, t := -p, r
		l = append(l, api.Mat2{A: x, B: u, C: y, D: v})
		for t != 0 {
			q := floor(new(big.Rat).Add(big.NewRat(int64(s), int64(t)), big.NewRat(1, 2)))
			x, u, y, v = u, q*u-x, v, q*v-y
			s, t = -t, s-q*t
			l = append(l, api.Mat2{A: x, B: u, C: y, D: v})
		}
	}
	return l
}

func TestCremona(t *testing.T) { // P44.1
	for _, p := range noIndices {
		l, e := heilbronn.Cremona(p)
		expectError(t, "Cremona", l, e, api.ErrRange)
	}
	for p := 1; p <= api.MaxHecke; p++ {
		l, e := heilbronn.Cremona(p)
		if p == 2 || !big.NewInt(int64(p)).ProbablyPrime(0) {
			expectError(t, "Cremona", l, e, api.ErrPrime)
		} else if e != api.OK || !slices.Equal(l, cremona(p)) {
			t.Errorf("Cremona(%d): %v, %d", p, l, e)
		}
	}
}

// chains are the chains by their description.
func chains(n int, choices []int) []api.Mat2 {
	var l []api.Mat2
	steps := 0
	for _, k := range classes(n) {
		x, u, y, v := k.A, k.B, k.C, k.D
		l = append(l, k)
		for u != 0 {
			round := floor
			if len(choices) > 0 && (choices[steps%len(choices)]-1)%2 == 0 {
				round = ceil
			}
			steps++
			q := round(big.NewRat(int64(x), int64(u)))
			x, u, y, v = u, q*u-x, v, q*v-y
			l = append(l, api.Mat2{A: x, B: u, C: y, D: v})
		}
	}
	return l
}

func TestChains(t *testing.T) { // P44.1
	for _, n := range noIndices {
		for _, choices := range [][]int{nil, {1}} {
			l, e := heilbronn.Chains(n, choices)
			expectError(t, "Chains", l, e, api.ErrRange)
		}
	}
	r := rand.New(rand.NewSource(44))
	for n := 1; n <= api.MaxHecke; n++ {
		random := make([]int, 1+r.Intn(200))
		for i := range random {
			random[i] = r.Intn(41) - 20
		}
		for _, choices := range [][]int{nil, {}, {0}, {1}, {-1}, {0, 1}, {3, 2, 7, -8, -9, 1<<63 - 1, -1 << 63}, random} {
			kept := slices.Clone(choices)
			if l, e := heilbronn.Chains(n, choices); e != api.OK || !slices.Equal(l, chains(n, choices)) {
				t.Errorf("Chains(%d, %v): %v, %d", n, choices, l, e)
			}
			if !slices.Equal(choices, kept) {
				t.Fatal("the choices were changed")
			}
		}
	}
}

func TestExamples(t *testing.T) { // P44.1
	if l, e := heilbronn.Merel(2); e != api.OK || !slices.Equal(l, []api.Mat2{{A: 1, D: 2}, {A: 1, C: 1, D: 2}, {A: 2, D: 1}, {A: 2, B: 1, D: 1}}) {
		t.Error(l, e)
	}
	if l, e := heilbronn.Cremona(3); e != api.OK || !slices.Equal(l, []api.Mat2{{A: 1, D: 3}, {A: 3, B: 1, D: 1}, {A: 1, C: 1, D: 3}, {A: 3, D: 1}, {A: 3, B: -1, D: 1}, {A: -1, C: 1, D: -3}}) {
		t.Error(l, e)
	}
	if l, e := heilbronn.Chains(2, nil); e != api.OK || !slices.Equal(l, []api.Mat2{{A: 1, D: 2}, {A: 2, D: 1}, {A: 2, B: 1, D: 1}, {A: 1, C: 1, D: 2}}) {
		t.Error(l, e)
	}
}

// lists returns lists of the functions for n.
func lists(t *testing.T, n int) [][]api.Mat2 {
	t.Helper()
	merel, e := heilbronn.Merel(n)
	if e != api.OK {
		t.Fatal(n, e)
	}
	l := [][]api.Mat2{merel}
	for _, choices := range [][]int{nil, {1}, {0, 1, 1}, {1, 0, 0, 0, 1}} {
		c, e := heilbronn.Chains(n, choices)
		if e != api.OK {
			t.Fatal(n, e)
		}
		l = append(l, c)
	}
	if c, e := heilbronn.Cremona(n); e == api.OK {
		l = append(l, c)
	}
	return l
}

func TestCondition(t *testing.T) { // P44.2
	for n := 1; n <= api.MaxHecke; n++ {
		for i, l := range lists(t, n) {
			if !heilbronn.Satisfies(n, l) || n <= 20 && !satisfies(n, l) {
				t.Errorf("list %d for %d", i, n)
			}
		}
	}
}

func TestChanges(t *testing.T) { // P44.3
	r := rand.New(rand.NewSource(443))
	for n := 1; n <= api.MaxHecke; n += 1 + n/6 {
		for i, l := range lists(t, n) {
			for range 10 {
				k := r.Intn(len(l))
				if heilbronn.Satisfies(n, slices.Delete(slices.Clone(l), k, k+1)) {
					t.Errorf("list %d for %d without matrix %d", i, n, k)
				}
				l[k] = negative(l[k])
				r.Shuffle(len(l), func(i, j int) { l[i], l[j] = l[j], l[i] })
				if !heilbronn.Satisfies(n, l) {
					t.Errorf("list %d for %d, changed", i, n)
				}
			}
		}
	}
}

// randomMember returns a matrix of SL2(Z) with small entries.
func randomMember(r *rand.Rand) api.Mat2 {
	g := api.Mat2{A: 1, D: 1}
	for range r.Intn(6) {
		g = times(g, api.Mat2{A: 1, B: r.Intn(5) - 2, D: 1})
		g = times(g, api.Mat2{B: -1, C: 1})
	}
	return g
}

func TestSatisfies(t *testing.T) { // P44.1: other lists
	r := rand.New(rand.NewSource(441))
	s, rotation := api.Mat2{B: -1, C: 1}, api.Mat2{B: -1, C: 1, D: -1}
	for range 400 {
		n := 1 + r.Intn(12)
		all := lists(t, n)
		l := slices.Clone(all[r.Intn(len(all))])
		k := classes(n)
		for range r.Intn(4) {
			m := times(k[r.Intn(len(k))], randomMember(r))
			switch r.Intn(5) {
			case 0: // from one cusp to another one and back
				l = append(l, m, times(m, s))
			case 1: // around a triangle
				l = append(l, m, times(m, rotation), times(times(m, rotation), rotation))
			case 2: // around two cusps instead of straight on
				i := r.Intn(len(l))
				l = append(l, negative(times(l[i], rotation)), times(times(l[i], rotation), rotation))
				l[i] = negative(times(l[i], s))
			case 3:
				l = append(l, m)
			case 4:
				l[r.Intn(len(l))] = m
			}
		}
		if got, want := heilbronn.Satisfies(n, l), satisfies(n, l); got != want {
			t.Errorf("%d, %v: %t", n, l, got)
		}
	}
	// Two classes, of which each one has what is missing in the other one.
	if heilbronn.Satisfies(2, []api.Mat2{{A: 1, D: 2}, {A: 1, C: 1, D: 2}, {A: 1, D: 2}, {A: 2, B: 1, D: 1}}) {
		t.Error("the sums of two classes are not told apart")
	}
	if heilbronn.Satisfies(1, nil) || heilbronn.Satisfies(2, []api.Mat2{}) {
		t.Error("an empty list")
	}
}

func TestSatisfiesLimits(t *testing.T) { // P44.1
	unit := []api.Mat2{{A: 1, D: 1}}
	for _, n := range noIndices {
		if heilbronn.Satisfies(n, unit) || heilbronn.Satisfies(n, nil) {
			t.Error(n)
		}
	}
	if !heilbronn.Satisfies(1, unit) || heilbronn.Satisfies(2, unit) || heilbronn.Satisfies(1, []api.Mat2{{A: 1, D: -1}}) || heilbronn.Satisfies(1, []api.Mat2{{A: 1, D: 2}}) {
		t.Error("the determinant is not looked at")
	}
	// 4096 matrices are not too many.
	there, back := api.Mat2{A: 2, B: 1, C: 1, D: 1}, api.Mat2{A: 1, B: -2, C: 1, D: -1}
	triangle := []api.Mat2{{A: 5, B: 2, C: 2, D: 1}, {A: 2, B: -7, C: 1, D: -3}, {A: -7, B: 5, C: -3, D: 2}}
	long := append(slices.Clone(unit), triangle...)
	for len(long) < 4096 {
		long = append(long, there, back)
	}
	if len(long) != 4096 || !heilbronn.Satisfies(1, long) {
		t.Error(len(long), "matrices")
	}
	long = append(append(slices.Clone(unit), there, back), long[4:]...)
	for len(long) < 4097 {
		long = append(long, there, back)
	}
	if len(long) != 4097 || heilbronn.Satisfies(1, long) || !heilbronn.Satisfies(1, long[:4095]) {
		t.Error(len(long), "matrices")
	}
	// Entries at the limits and beyond: a path and the way back.
	for _, x := range []struct {
		m    api.Mat2
		want bool
	}{
		{api.Mat2{A: 1, B: top, D: 1}, true}, {api.Mat2{A: 1, C: -top, D: 1}, true}, {api.Mat2{A: top, B: top - 1, C: 1, D: 1}, true}, {api.Mat2{A: 1 - top, B: -top, C: 1, D: 1}, true},
		{api.Mat2{A: 1, B: top + 1, D: 1}, false}, {api.Mat2{A: 1, C: -top - 1, D: 1}, false}, {api.Mat2{A: top + 1, B: top, C: 1, D: 1}, false}, {api.Mat2{A: 1, B: -1 << 63, D: 1}, false},
		{api.Mat2{A: 1 << 32, B: -1, C: 1, D: 1 << 32}, false}, {api.Mat2{}, false},
	} {
		l := append(slices.Clone(unit), x.m, times(x.m, api.Mat2{B: -1, C: 1}))
		if heilbronn.Satisfies(1, l) != x.want {
			t.Error(l)
		}
	}
}
