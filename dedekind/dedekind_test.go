package dedekind_test

import (
	"math"
	"math/big"
	"math/rand"
	"slices"
	"testing"

	"halfplane/api"
	"halfplane/arith"
	"halfplane/bigint"
	"halfplane/dedekind"
	"halfplane/rational"
	"halfplane/sl2"
)

const top = api.MaxEntry

// beyond are numbers that no entry may be.
var beyond = []int{top + 1, -top - 1, math.MaxInt, math.MinInt}

// rat reads a result and reports one that is not normalized.
func rat(t *testing.T, a api.Rat) *big.Rat {
	t.Helper()
	x, ok := new(big.Rat).SetString(rational.Format(a))
	n := rational.Normal(a)
	same := func(x, y api.Int) bool { return x.Neg == y.Neg && slices.Equal(x.Mag, y.Mag) }
	if !ok || !same(a.Num, n.Num) || !same(a.Den, n.Den) {
		t.Fatal(a, "is not normalized")
	}
	return x
}

func isNone(a api.Rat) bool {
	return len(a.Num.Mag)+len(a.Den.Mag) == 0
}

// sum is dedekind.Sum, which must not fail.
func sum(t *testing.T, h, k int) *big.Rat {
	t.Helper()
	s, e := dedekind.Sum(h, k)
	if e != api.OK {
		t.Fatal(h, k, e)
	}
	return rat(t, s)
}

// defined follows the definition of the Dedekind sum: it adds the numerators of
// (2i/k - 1) (2r/k - 1), where r is the residue of h i.
func defined(h, k int) *big.Rat {
	n := 0
	for i := 1; i < k; i++ {
		r := ((h*i)%k + k) % k
		n += (2*i - k) * (2*r - k)
	}
	return big.NewRat(int64(n), int64(4*k*k))
}

func add(x, y *big.Rat) *big.Rat {
	return new(big.Rat).Add(x, y)
}

func times(n int, x *big.Rat) *big.Rat {
	return new(big.Rat).Mul(big.NewRat(int64(n), 1), x)
}

func TestSum(t *testing.T) { // P20.1
	for k := 1; k <= 60; k++ {
		for h := -2 * k; h <= 2*k; h++ {
			if arith.Gcd(h, k) != 1 {
				if s, e := dedekind.Sum(h, k); e != api.ErrCoprime || !isNone(s) {
					t.Fatal(h, k, s, e)
				}
				continue
			}
			if s := sum(t, h, k); s.Cmp(defined(h, k)) != 0 {
				t.Fatal(h, k, s)
			}
		}
	}
	for _, c := range [][2]int{{1234, 4567}, {-998, 9973}, {1, 10000}, {9999, 10000}, {6765, 10946}, {top, 9999}, {-top, 10007}} {
		if s := sum(t, c[0], c[1]); s.Cmp(defined(c[0], c[1])) != 0 {
			t.Error(c, s)
		}
	}
	for _, c := range []struct {
		h, k int
		want string
	}{{1, 3, "1/18"}, {2, 3, "-1/18"}, {0, 1, "0"}, {top, 1, "0"}, {-top, 1, "0"}, {1, 2, "0"}} {
		if s, e := dedekind.Sum(c.h, c.k); e != api.OK || rational.Format(s) != c.want {
			t.Error(c, s, e)
		}
	}
	// s(1, k) is (k - 1) (k - 2) / (12 k).
	want := big.NewRat(top-1, 12*top)
	want = times(top-2, want)
	if s := sum(t, 1, top); s.Cmp(want) != 0 {
		t.Error(s)
	}
	if s := sum(t, top-1, top); s.Cmp(want.Neg(want)) != 0 {
		t.Error(s)
	}
}

func TestSumErrors(t *testing.T) { // P20.1
	for _, n := range beyond {
		for _, c := range [][2]int{{1, n}, {n, 1}, {n, n}, {n, 6}, {0, n}} {
			if s, e := dedekind.Sum(c[0], c[1]); e != api.ErrRange || !isNone(s) {
				t.Error(c, s, e)
			}
		}
	}
	for _, c := range []struct {
		h, k int
		want api.Errno
	}{{1, 0, api.ErrRange}, {0, 0, api.ErrRange}, {1, -3, api.ErrRange}, {2, -4, api.ErrRange}, {0, 2, api.ErrCoprime}, {top, top, api.ErrCoprime}, {-6, 9, api.ErrCoprime}} {
		if s, e := dedekind.Sum(c.h, c.k); e != c.want || !isNone(s) {
			t.Error(c, s, e)
		}
	}
}

// pairs returns coprime numbers of many sizes, both at least 1.
func pairs() [][2]int {
	r := rand.New(rand.NewSource(1))
	l := [][2]int{{1, 1}, {1, top}, {top, 1}, {top - 1, top}, {top, top - 1}, {832040, 1346269}, {1, 2}}
	for len(l) < 2000 {
		h, k := 1+r.Intn(1<<uint(1+r.Intn(30))), 1+r.Intn(1<<uint(1+r.Intn(30)))
		if arith.Gcd(h, k) == 1 {
			l = append(l, [2]int{h, k})
		}
	}
	return l
}

func TestSumProperties(t *testing.T) { // P20.1
	for _, c := range pairs() {
		h, k := c[0], c[1]
		s := sum(t, h, k)
		if x := sum(t, -h, k); add(x, s).Sign() != 0 {
			t.Fatal(h, k, s, x)
		}
		if h+k <= top {
			if x := sum(t, h+k, k); x.Cmp(s) != 0 {
				t.Fatal(h, k, s, x)
			}
		}
		inverse, _ := arith.Inverse(h, k)
		if x := sum(t, inverse, k); x.Cmp(s) != 0 {
			t.Fatal(h, k, s, x)
		}
		if !times(6*k, s).IsInt() {
			t.Fatal(h, k, s)
		}
		// 12 k h s(h, k) - h^2 - 1, divided by k.
		n := times(h, times(12*k, s))
		n.Sub(n, big.NewRat(int64(h)*int64(h)+1, 1))
		if n.Quo(n, big.NewRat(int64(k), 1)); !n.IsInt() {
			t.Fatal(h, k, s)
		}
	}
}

func TestReciprocity(t *testing.T) { // P20.2
	for _, c := range pairs() {
		h, k := c[0], c[1]
		left := times(12, add(sum(t, h, k), sum(t, k, h)))
		product := new(big.Int).Mul(big.NewInt(int64(h)), big.NewInt(int64(k)))
		right := add(big.NewRat(int64(h), int64(k)), big.NewRat(int64(k), int64(h)))
		right = add(add(right, new(big.Rat).SetFrac(big.NewInt(1), product)), big.NewRat(-3, 1))
		if left.Cmp(right) != 0 {
			t.Fatal(h, k, left, right)
		}
	}
}

// product is the product of two matrices.
func product(x, y api.Mat2) api.Mat2 {
	return api.Mat2{A: x.A*y.A + x.B*y.C, B: x.A*y.B + x.B*y.D, C: x.C*y.A + x.D*y.C, D: x.C*y.B + x.D*y.D}
}

// random returns a matrix of Gamma0(n), of many sizes.
func random(r *rand.Rand, n int) api.Mat2 {
	m := api.Mat2{A: 1, D: 1}
	if r.Intn(2) == 0 {
		m = api.Mat2{A: -1, D: -1}
	}
	for range r.Intn(6) {
		next := product(m, api.Mat2{A: 1, B: r.Intn(9) - 4, D: 1})
		next = product(next, api.Mat2{A: 1, C: n * (r.Intn(5) - 2), D: 1})
		if n == 1 && r.Intn(2) == 0 {
			next = product(next, api.Mat2{B: -1, C: 1})
		}
		if sl2.Check(next) != api.OK {
			break
		}
		m = next
	}
	return m
}

func sign(n int) int {
	switch {
	case n < 0:
		return -1
	case n > 0:
		return 1
	}
	return 0
}

// phi is dedekind.Phi, which must not fail.
func phi(t *testing.T, m api.Mat2) int {
	t.Helper()
	n, e := dedekind.Phi(m)
	x, ok := bigint.Small(n)
	if e != api.OK || !ok || len(n.Mag) > 0 && n.Mag[len(n.Mag)-1] == 0 || len(n.Mag) == 0 && n.Neg {
		t.Fatal(m, n, e)
	}
	return x
}

func TestPhi(t *testing.T) { // P20.3
	for _, c := range []struct {
		m    api.Mat2
		want int
	}{
		{api.Mat2{B: -1, C: 1, D: 1}, 1}, {api.Mat2{A: -1, C: 1, D: -1}, -2}, {api.Mat2{A: 1, D: 1}, 0}, {api.Mat2{A: -1, D: -1}, 0}, {api.Mat2{A: 1, B: 7, D: 1}, 7},
		{api.Mat2{A: -1, B: 7, D: -1}, -7}, {api.Mat2{B: -1, C: 1}, 0}, {api.Mat2{A: 1, B: -top, D: 1}, -top}, {api.Mat2{A: -1, B: -top, D: -1}, top},
		{api.Mat2{A: 1, C: top, D: 1}, 3 - top}, {api.Mat2{A: 1, C: -top, D: 1}, top - 3}, {api.Mat2{A: top, B: -1, C: 1}, top}, {api.Mat2{A: top, B: top - 1, C: 1, D: 1}, top + 1},
	} {
		if n := phi(t, c.m); n != c.want {
			t.Error(c, n)
		}
	}
	r := rand.New(rand.NewSource(2))
	for range 3000 {
		x, y := random(r, 1), random(r, 1)
		// The definition.
		want := new(big.Rat)
		if x.C == 0 {
			want.SetInt64(int64(x.B / x.D))
		} else {
			want = add(big.NewRat(int64(x.A+x.D), int64(x.C)), times(-12*sign(x.C), sum(t, x.D, max(x.C, -x.C))))
		}
		if n := phi(t, x); want.Cmp(big.NewRat(int64(n), 1)) != 0 {
			t.Fatal(x, n, want)
		}
		class, _ := sl2.Abelian(x)
		n := phi(t, x) - 3*sign(x.C)
		if x.C == 0 && x.D == -1 {
			n += 6
		}
		if (n-class)%12 != 0 {
			t.Fatal(x, n, class)
		}
		if z := product(x, y); sl2.Check(z) == api.OK && phi(t, z) != phi(t, x)+phi(t, y)-3*sign(x.C)*sign(y.C)*sign(z.C) {
			t.Fatal(x, y, phi(t, z))
		}
	}
}

func TestPhiErrors(t *testing.T) { // P20.3
	for _, n := range beyond {
		for _, m := range []api.Mat2{{A: n, D: 1}, {A: 1, B: n, D: 1}, {A: 1, C: n, D: 1}, {A: 1, D: n}, {A: n, B: n, C: n, D: n}} {
			if x, e := dedekind.Phi(m); e != api.ErrRange || len(x.Mag) != 0 {
				t.Error(m, x, e)
			}
		}
	}
	for _, m := range []api.Mat2{{}, {A: 1, D: -1}, {A: 2, D: 2}, {A: top, B: top, C: top, D: top}} {
		if x, e := dedekind.Phi(m); e != api.ErrMember || len(x.Mag) != 0 {
			t.Error(m, x, e)
		}
	}
}

// multiplier follows the definition of the multiplier.
func multiplier(t *testing.T, n int, r []int, m api.Mat2) *big.Rat {
	t.Helper()
	v := new(big.Rat)
	divisors, _ := arith.Divisors(n)
	total, weighted := 0, 0
	for i, d := range divisors {
		total += r[i]
		weighted += d * r[i]
	}
	half := big.NewRat(int64(total/2), 2)
	switch {
	case m.C > 0:
		for i, d := range divisors {
			part := big.NewRat(int64(d*(m.A+m.D)), int64(12*m.C))
			part.Sub(part, sum(t, m.D, m.C/d))
			v.Add(v, times(r[i], part))
		}
		v.Quo(v, big.NewRat(2, 1))
		v.Sub(v, big.NewRat(int64(total/2), 4))
	case m.C == 0:
		v.Mul(big.NewRat(int64(m.B*m.D), 24), big.NewRat(int64(weighted), 1))
		if m.D == -1 {
			v.Add(v, half)
		}
	default:
		v.Add(multiplier(t, n, r, api.Mat2{A: -m.A, B: -m.B, C: -m.C, D: -m.D}), half)
	}
	return fraction(v)
}

// fraction returns v modulo 1.
func fraction(v *big.Rat) *big.Rat {
	floor := new(big.Int).Div(v.Num(), v.Denom()) // denominators are positive
	return new(big.Rat).Sub(v, new(big.Rat).SetInt(floor))
}

func TestMultiplier(t *testing.T) { // P20.4
	r := rand.New(rand.NewSource(3))
	for range 1500 {
		n := 1 + r.Intn(api.MaxLevel)
		divisors, _ := arith.Divisors(n)
		exps := make([]int, len(divisors))
		total := 0
		for i := range exps {
			exps[i] = r.Intn(2*api.MaxEta+1) - api.MaxEta
			total += exps[i]
		}
		if total%2 != 0 && exps[0] == 0 {
			exps[0] = 1
		} else if total%2 != 0 {
			exps[0] -= sign(exps[0])
		}
		kept := slices.Clone(exps)
		x, y := random(r, n), random(r, n)
		v, e := dedekind.Multiplier(n, exps, x)
		if e != api.OK || rat(t, v).Cmp(multiplier(t, n, exps, x)) != 0 {
			t.Fatal(n, exps, x, v, e)
		}
		if z := product(x, y); sl2.Check(z) == api.OK {
			w, _ := dedekind.Multiplier(n, exps, y)
			both, e := dedekind.Multiplier(n, exps, z)
			if e != api.OK || rat(t, both).Cmp(fraction(add(rat(t, v), rat(t, w)))) != 0 {
				t.Fatal(n, exps, x, y, v, w, both)
			}
		}
		if !slices.Equal(exps, kept) {
			t.Fatal("the argument was changed")
		}
	}
}

func TestSmallMultipliers(t *testing.T) { // P20.4
	r := rand.New(rand.NewSource(4))
	for range 200 {
		m := random(r, 1)
		if v, e := dedekind.Multiplier(1, []int{24}, m); e != api.OK || rat(t, v).Sign() != 0 {
			t.Fatal(m, v, e)
		}
		// The cusp form eta(z)^2 eta(11 z)^2 of level 11.
		m = random(r, 11)
		if v, e := dedekind.Multiplier(11, []int{2, 2}, m); e != api.OK || rat(t, v).Sign() != 0 {
			t.Fatal(m, v, e)
		}
	}
	for _, c := range []struct {
		n    int
		r    []int
		m    api.Mat2
		want string
	}{
		{1, []int{2}, api.Mat2{A: 1, B: 1, D: 1}, "1/12"}, {1, []int{2}, api.Mat2{B: -1, C: 1}, "3/4"}, {1, []int{2}, api.Mat2{B: 1, C: -1}, "1/4"}, {1, []int{2}, api.Mat2{A: -1, D: -1}, "1/2"},
		{1, []int{-2}, api.Mat2{A: 1, B: 1, D: 1}, "11/12"}, {1, []int{0}, api.Mat2{B: -1, C: 1}, "0"}, {2, []int{1, 1}, api.Mat2{A: 1, B: -top, D: 1}, "0"}, {2, []int{1, 1}, api.Mat2{A: 1, B: 1, D: 1}, "1/8"},
		{120, make([]int, 16), api.Mat2{A: 1, C: 120, D: 1}, "0"}, {2, []int{-1, 1}, api.Mat2{A: 1, B: 1, D: 1}, "1/24"},
	} {
		if v, e := dedekind.Multiplier(c.n, c.r, c.m); e != api.OK || rational.Format(v) != c.want {
			t.Error(c, rational.Format(v), e)
		}
	}
	// Great exponents and entries.
	great := []api.Mat2{{A: 1, B: top, D: 1}, {A: -1, B: top, D: -1}, {A: 1, C: 120 * 8947848, D: 1}, {A: -1, C: 120 * 8947848, D: -1}, {A: 1, C: -120 * 8947848, D: 1}, {A: 120*8947848 - 1, B: -1, C: 120 * 8947848, D: -1}}
	for _, m := range great {
		for _, x := range []int{api.MaxEta, -api.MaxEta} {
			r := slices.Repeat([]int{x}, 16)
			if v, e := dedekind.Multiplier(120, r, m); e != api.OK || rat(t, v).Cmp(multiplier(t, 120, r, m)) != 0 {
				t.Error(m, x, v, e)
			}
		}
	}
}

func TestMultiplierErrors(t *testing.T) { // P20.4
	unit := api.Mat2{A: 1, D: 1}
	for _, c := range []struct {
		n    int
		r    []int
		m    api.Mat2
		want api.Errno
	}{
		{0, nil, unit, api.ErrRange}, {-1, []int{2}, unit, api.ErrRange}, {121, []int{2}, unit, api.ErrRange}, {math.MaxInt, nil, unit, api.ErrRange}, {math.MinInt, nil, unit, api.ErrRange},
		{1, nil, unit, api.ErrShape}, {1, []int{1, 1}, unit, api.ErrShape}, {6, []int{1, 1, 1}, unit, api.ErrShape}, {6, []int{500}, unit, api.ErrShape},
		{1, []int{201}, unit, api.ErrRange}, {1, []int{-201}, unit, api.ErrRange}, {2, []int{1, math.MinInt}, unit, api.ErrRange}, {2, []int{math.MaxInt, math.MaxInt}, api.Mat2{}, api.ErrRange}, {2, []int{201, 0}, unit, api.ErrRange},
		{1, []int{1}, api.Mat2{A: top + 1}, api.ErrInexact}, {1, []int{-1}, unit, api.ErrInexact}, {6, []int{1, 2, 3, 5}, unit, api.ErrInexact},
		{1, []int{2}, api.Mat2{}, api.ErrMember}, {1, []int{2}, api.Mat2{A: 1, D: top + 1}, api.ErrRange}, {3, []int{1, 1}, api.Mat2{A: 1, C: top + 1, D: 1}, api.ErrRange}, {3, []int{1, 1}, api.Mat2{A: 1, C: 3, D: -1}, api.ErrMember},
		{3, []int{1, 1}, api.Mat2{A: 1, C: 2, D: 1}, api.ErrMember}, {3, []int{1, 1}, api.Mat2{B: -1, C: 1}, api.ErrMember}, {4, []int{2, 0, 0}, api.Mat2{A: 1, C: -6, D: 1}, api.ErrMember},
	} {
		if v, e := dedekind.Multiplier(c.n, c.r, c.m); e != c.want || !isNone(v) {
			t.Error(c, v, e)
		}
	}
	if v, e := dedekind.Multiplier(1, []int{200}, unit); e != api.OK || rational.Format(v) != "0" {
		t.Error(v, e)
	}
}

// Nothing of a result is used again by a later call, nor by another part of the result.
func TestMemory(t *testing.T) { // R3
	m := api.Mat2{A: 5, B: 2, C: 2, D: 1}
	for _, do := range []func() api.Rat{
		func() api.Rat { s, _ := dedekind.Sum(1, 3); return s },
		func() api.Rat { n, _ := dedekind.Phi(m); return api.Rat{Num: n, Den: bigint.Of(1)} },
		func() api.Rat { v, _ := dedekind.Multiplier(1, []int{2}, m); return v },
	} {
		a := do()
		kept := rational.Format(a)
		whole := a.Num.Mag[:cap(a.Num.Mag)]
		for i := range whole {
			whole[i] = 0xDEADBEEF
		}
		if again := do(); rational.Format(again) != kept || rational.Format(api.Rat{Num: a.Den, Den: bigint.Of(1)}) != rational.Format(api.Rat{Num: again.Den, Den: bigint.Of(1)}) {
			t.Error(kept, again, a)
		}
	}
}
