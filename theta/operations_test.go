package theta_test

import (
	"math"
	"math/big"
	"math/rand"
	"slices"
	"testing"

	"halfplane/api"
	"halfplane/quadform"
	"halfplane/theta"
)

func TestSum(t *testing.T) { // P36.5
	r := rand.New(rand.NewSource(367))
	for range 200 {
		a, b := random(r, 1+r.Intn(6), 3), random(r, 1+r.Intn(6), 3)
		n := a.Rank + b.Rank
		got, e := theta.Sum(a, b)
		if n > 8 {
			expectError(t, "Sum", got, e, api.ErrRange)
			continue
		}
		want := api.Gram{Rank: n, A: make([]int, n*n)}
		for i := range n {
			for j := range n {
				switch {
				case i < a.Rank && j < a.Rank:
					want.A[i*n+j] = a.A[i*a.Rank+j]
				case i >= a.Rank && j >= a.Rank:
					want.A[i*n+j] = b.A[(i-a.Rank)*b.Rank+j-a.Rank]
				}
			}
		}
		if e != api.OK || !same(got, want) {
			t.Errorf("Sum(%v, %v): %v, %d", a, b, got, e)
		}
	}
}

func TestScale(t *testing.T) { // P36.5
	g := of(4, -1, -1, 100)
	for _, d := range []int{1, 2, 10} {
		if got, e := theta.Scale(g, d); e != api.OK || !same(got, of(4*d, -d, -d, 100*d)) {
			t.Errorf("Scale(%d): %v, %d", d, got, e)
		}
	}
	for _, d := range []int{0, -1, math.MinInt} {
		got, e := theta.Scale(g, d)
		expectError(t, "Scale", got, e, api.ErrRange)
	}
	for _, d := range []int{11, 1000, 1001, math.MaxInt, 1 << 62} {
		got, e := theta.Scale(g, d)
		expectError(t, "Scale", got, e, api.ErrLarge)
	}
	if got, e := theta.Scale(of(2), 500); e != api.OK || !same(got, of(1000)) {
		t.Errorf("Scale: %v, %d", got, e)
	}
	got, e := theta.Scale(of(2), 501)
	expectError(t, "Scale", got, e, api.ErrLarge)
}

// unimodular returns a product of elementary matrices.
func unimodular(r *rand.Rand, n int) []int {
	u := diagonal(slices.Repeat([]int{1}, n)...).A
	for range 1 + r.Intn(2*n) {
		i, j, c := r.Intn(n), r.Intn(n), r.Intn(3)-1
		for k := range n {
			if i != j {
				u[i*n+k] += c * u[j*n+k]
			} else if c < 0 {
				u[i*n+k] = -u[i*n+k]
			}
		}
	}
	return u
}

func TestChange(t *testing.T) { // P36.5, P36.7
	r := rand.New(rand.NewSource(368))
	for range 100 {
		n := 1 + r.Intn(4)
		g, u := random(r, n, 3), unimodular(r, n)
		want := make([]int, n*n)
		for k := range want {
			for i := range n {
				for j := range n {
					want[k] += u[k/n*n+i] * g.A[i*n+j] * u[k%n*n+j]
				}
			}
		}
		got, e := theta.Change(g, u)
		if e != api.OK || !same(got, api.Gram{Rank: n, A: want}) {
			t.Errorf("Change(%v, %v): %v, %d; want %v", g, u, got, e, want)
			continue
		}
		checkAlike(t, g, got)
	}
}

// checkAlike checks that two forms have the same invariants and theta series.
func checkAlike(t *testing.T, g, h api.Gram) {
	t.Helper()
	d, _ := theta.Det(g)
	d2, _ := theta.Det(h)
	n, e := theta.Level(g)
	n2, e2 := theta.Level(h)
	c, f := theta.Disc(g)
	c2, f2 := theta.Disc(h)
	if !sameInt(d, d2) || n != n2 || c != c2 || e != e2 || f != f2 {
		t.Errorf("the invariants of %v and %v", g, h)
	}
	a, e := theta.Expansion(g, 6)
	b, e2 := theta.Expansion(h, 6)
	if e == api.OK && e2 == api.OK && !alike(a, b) {
		t.Errorf("the theta series of %v and %v", g, h)
	}
}

func TestChangeErrors(t *testing.T) { // P36.5
	g := of(2, 1, 1, 2)
	for want, l := range map[api.Errno][][]int{
		api.ErrShape:    {nil, {1}, {1, 0, 0}, {1, 0, 0, 1, 0}, {500, 500, 500}},
		api.ErrRange:    {{1, 101, 0, 1}, {-101, 0, 0, 1}, {1, 0, 500, 5}, {1, math.MaxInt, 0, 1}, {1, 0, math.MinInt, 1}},
		api.ErrSingular: {{1, 0, 0, 0}, {1, 1, 1, 1}, {2, 0, 0, 1}, {1, 2, 2, 1}, {100, 100, 100, 100}, {0, 0, 0, 0}, {100, -100, 100, 100}},
		api.ErrLarge:    {{1, 100, 0, 1}, {1, -23, 0, 1}, {0, -1, 1, 22}, {100, 99, 99, 98}},
	} {
		for _, u := range l {
			got, e := theta.Change(g, u)
			expectError(t, "Change", got, e, want)
		}
	}
	for _, u := range [][]int{{1, 0, 0, 1}, {-1, 0, 0, -1}, {0, 1, 1, 0}, {1, 21, 0, 1}, {0, -1, 1, 21}} {
		if _, e := theta.Change(g, u); e != api.OK {
			t.Errorf("Change by %v: %d", u, e)
		}
	}
}

func TestBinary(t *testing.T) { // P36.5
	for _, f := range []api.QuadForm{{A: 1, C: 1}, {A: 1, B: 1, C: 6}, {A: 2, B: -1, C: 3}, {A: 500, B: 999, C: 500}, {A: 500, B: -999, C: 500}, {A: 500, B: 3, C: 1}} {
		if got, e := theta.Binary(f); e != api.OK || !same(got, of(2*f.A, f.B, f.B, 2*f.C)) {
			t.Errorf("Binary(%v): %v, %d", f, got, e)
		}
	}
	for _, f := range []api.QuadForm{{}, {A: -1, C: -1}, {A: 1, B: 2, C: 1}, {A: 10001, C: 1}, {A: 1, B: math.MinInt, C: 1}, {A: 1, B: 5, C: 2}} {
		got, e := theta.Binary(f)
		expectError(t, "Binary", got, e, quadform.Check(f))
	}
	for _, f := range []api.QuadForm{{A: 501, C: 1}, {A: 1, C: 501}, {A: 502, B: 1001, C: 502}, {A: 10000, C: 10000}} {
		got, e := theta.Binary(f)
		expectError(t, "Binary", got, e, api.ErrLarge)
	}
	// The coefficients are the numbers of representations.
	f := api.QuadForm{A: 2, B: 1, C: 3}
	a, _ := theta.Expansion(must(t)(theta.Binary(f)), 50)
	for n := range 50 {
		count, _ := quadform.Represent(f, n)
		if got := toRat(a.Coef[n]); got.Cmp(big.NewRat(int64(count), 1)) != 0 {
			t.Errorf("representations of %d: %v, not %d", n, got, count)
		}
	}
}

func TestMemory(t *testing.T) { // R3
	a, b := of(2, 1, 1, 2), of(4)
	u := []int{1, 0, 0, 1}
	p := []api.Monomial{{Exps: []int{2, 0}, Coef: whole(3)}, {Exps: []int{0, 2}, Coef: whole(-3)}}
	for _, f := range []func() (api.Gram, api.Errno){
		func() (api.Gram, api.Errno) { return theta.Sum(a, b) },
		func() (api.Gram, api.Errno) { return theta.Scale(a, 1) },
		func() (api.Gram, api.Errno) { return theta.Change(a, u) },
	} {
		got := must(t)(f())
		for i := range got.A {
			got.A[i] = 99
		}
		if !same(a, of(2, 1, 1, 2)) || !same(b, of(4)) || !slices.Equal(u, []int{1, 0, 0, 1}) {
			t.Fatalf("a result shares memory with an argument: %v, %v, %v", a, b, u)
		}
	}
	l, _ := theta.Vectors(a, 1)
	again, _ := theta.Vectors(a, 1)
	for i := range l {
		x := l[i][:cap(l[i])]
		for j := range x {
			x[j] = 99
		}
		l[i] = again[i]
		if !slices.EqualFunc(l, again, slices.Equal) {
			t.Errorf("the vectors share memory")
		}
	}
	s, _ := theta.Weighted(a, p, 5)
	for i := range s.Coef {
		for j := range s.Coef[i].Num.Mag {
			s.Coef[i].Num.Mag[j] = 99
		}
	}
	if toBig(p[0].Coef.Num).Int64() != 3 || toBig(p[1].Coef.Num).Int64() != -3 || p[0].Exps[0] != 2 || p[1].Exps[1] != 2 {
		t.Errorf("Weighted changes its argument: %v", p)
	}
}
