package eta_test

import (
	"math"
	"math/rand"
	"slices"
	"testing"

	"halfplane/api"
	"halfplane/eta"
)

// factors returns the exponents by the factors of z.
func factors(e api.Eta) map[int]int {
	l := map[int]int{}
	for i, d := range divisors(e.Level) {
		l[d] += e.Exps[i]
	}
	return l
}

// from returns the eta quotient with these exponents, and whether it has one that is
// beyond the limit.
func from(level int, l map[int]int) (api.Eta, bool) {
	e := api.Eta{Level: level}
	for _, d := range divisors(level) {
		e.Exps = append(e.Exps, l[d])
	}
	return e, slices.Max(e.Exps) > 200 || slices.Min(e.Exps) < -200
}

func TestTimes(t *testing.T) { // P35.5
	r := rand.New(rand.NewSource(355))
	for range 500 {
		a, b := random(r, 1+r.Intn(60), 110), random(r, 1+r.Intn(60), 110)
		level := a.Level * b.Level / gcd(a.Level, b.Level)
		l := factors(a)
		for d, x := range factors(b) {
			l[d] += x
		}
		want, large := from(level, l)
		got, code := eta.Times(a, b)
		if large || level > 600 {
			expectError(t, "Times", got, code, api.ErrLarge)
		} else if code != api.OK || !same(got, want) {
			t.Errorf("Times(%v, %v): %v, %d; want %v", a, b, got, code, want)
		}
	}
	got, code := eta.Times(of(2, 100, -200), of(3, 100, 0))
	if code != api.OK || !same(got, of(6, 200, -200, 0, 0)) {
		t.Errorf("Times: %v, %d", got, code)
	}
	got, code = eta.Times(of(2, 100, 0), of(3, 101, 0))
	expectError(t, "Times", got, code, api.ErrLarge)
	got, code = eta.Times(of(599, 0, 0), of(2, 0, 0))
	expectError(t, "Times", got, code, api.ErrLarge)
}

func TestPower(t *testing.T) { // P35.5
	r := rand.New(rand.NewSource(356))
	for range 300 {
		e, n := random(r, 1+r.Intn(60), 20), r.Intn(30)-15
		l := factors(e)
		for d := range l {
			l[d] *= n
		}
		want, large := from(e.Level, l)
		got, code := eta.Power(e, n)
		if large {
			expectError(t, "Power", got, code, api.ErrLarge)
		} else if code != api.OK || !same(got, want) {
			t.Errorf("Power(%v, %d): %v, %d; want %v", e, n, got, code, want)
		}
	}
	for _, n := range []int{math.MinInt, math.MaxInt, math.MaxInt - 1, 1 << 63 / 8 * -1, 201, -201} {
		got, code := eta.Power(of(6, 0, 0, 0, 1), n)
		expectError(t, "Power", got, code, api.ErrLarge)
		got, code = eta.Power(of(6, 0, 0, 8, 0), n)
		expectError(t, "Power", got, code, api.ErrLarge)
		got, code = eta.Power(of(2, 0, 0), n)
		if code != api.OK || !same(got, of(2, 0, 0)) {
			t.Errorf("Power of 1: %v, %d", got, code)
		}
	}
	for _, n := range []int{200, -200} {
		if got, code := eta.Power(of(2, 1, -1), n); code != api.OK || !same(got, of(2, n, -n)) {
			t.Errorf("Power(%d): %v, %d", n, got, code)
		}
	}
}

func TestReplace(t *testing.T) { // P35.5
	r := rand.New(rand.NewSource(357))
	for range 300 {
		e, factor := random(r, 1+r.Intn(60), 200), 1+r.Intn(20)
		l := map[int]int{}
		for d, x := range factors(e) {
			l[d*factor] = x
		}
		want, _ := from(e.Level*factor, l)
		got, code := eta.Replace(e, factor)
		if e.Level*factor > 600 {
			expectError(t, "Replace", got, code, api.ErrLarge)
		} else if code != api.OK || !same(got, want) {
			t.Errorf("Replace(%v, %d): %v, %d; want %v", e, factor, got, code, want)
		}
	}
	for _, factor := range []int{0, -1, math.MinInt} {
		got, code := eta.Replace(of(1, 1), factor)
		expectError(t, "Replace", got, code, api.ErrRange)
	}
	for _, factor := range []int{601, math.MaxInt, 1 << 62} {
		got, code := eta.Replace(of(1, 1), factor)
		expectError(t, "Replace", got, code, api.ErrLarge)
	}
	if got, code := eta.Replace(of(1, 1), 600); code != api.OK || got.Level != 600 || got.Exps[23] != 1 {
		t.Errorf("Replace: %v, %d", got, code)
	}
}

func TestRaise(t *testing.T) { // P35.5
	r := rand.New(rand.NewSource(358))
	for range 500 {
		e, level := random(r, 1+r.Intn(30), 200), 1+r.Intn(600)
		if r.Intn(2) == 0 {
			level = e.Level * (1 + r.Intn(22))
		}
		want, _ := from(level, factors(e))
		got, code := eta.Raise(e, level)
		switch {
		case level > 600:
			expectError(t, "Raise", got, code, api.ErrRange)
		case level%e.Level != 0:
			expectError(t, "Raise", got, code, api.ErrLevel)
		case code != api.OK || !same(got, want):
			t.Errorf("Raise(%v, %d): %v, %d; want %v", e, level, got, code, want)
		}
	}
	for _, level := range []int{0, -1, -2, 601, 602, math.MinInt, math.MaxInt} {
		got, code := eta.Raise(of(2, 1, 1), level)
		expectError(t, "Raise", got, code, api.ErrRange)
	}
}

// all returns the modular and holomorphic eta quotients of a level and weight with
// exponents up to a limit, in their order.
func all(level, weight, limit int) []api.Eta {
	var l []api.Eta
	n := len(divisors(level))
	exps := make([]int, n)
	var search func(i, rest int)
	search = func(i, rest int) {
		if i == n-1 {
			exps[i] = rest
			if e := of(level, exps...); rest >= -limit && rest <= limit && isModular(e) && isHolomorphic(e) {
				l = append(l, of(level, slices.Clone(exps)...))
			}
			return
		}
		for exps[i] = -limit; exps[i] <= limit; exps[i]++ {
			search(i+1, rest-exps[i])
		}
	}
	search(0, 2*weight)
	return l
}

func TestList(t *testing.T) { // P35.6
	for _, c := range []struct{ level, weight, limit int }{
		{1, 0, 200}, {1, 12, 200}, {1, 6, 200}, {2, 4, 200}, {2, 8, 200}, {2, 12, 200}, {3, 3, 200}, {3, 6, 200}, {3, 12, 200}, {5, 2, 200}, {5, 4, 200}, {5, 12, 200},
		{7, 3, 200}, {11, 2, 200}, {11, 5, 200}, {23, 1, 200}, {23, 11, 200}, {31, 2, 200}, {4, 1, 60}, {4, 2, 60}, {4, 3, 80}, {9, 2, 60}, {9, 3, 60}, {25, 2, 40}, {49, 1, 40},
		{6, 1, 24}, {6, 2, 32}, {8, 1, 24}, {10, 1, 24}, {10, 2, 24}, {15, 1, 24}, {15, 2, 24}, {14, 2, 24}, {21, 1, 24},
	} {
		got, code := eta.List(c.level, c.weight)
		if want := all(c.level, c.weight, c.limit); code != api.OK || !slices.EqualFunc(got, want, same) {
			t.Errorf("List(%d, %d): %v, %d; want %v", c.level, c.weight, got, code, want)
		}
	}
	got, code := eta.List(1, 12)
	if code != api.OK || len(got) != 1 || !same(got[0], of(1, 24)) {
		t.Errorf("List(1, 12): %v, %d", got, code)
	}
	got, code = eta.List(2, 4)
	if code != api.OK || len(got) != 2 || !same(got[0], of(2, -8, 16)) || !same(got[1], of(2, 16, -8)) {
		t.Errorf("List(2, 4): %v, %d", got, code)
	}
}

func TestListLimits(t *testing.T) { // P35.6
	for _, l := range [][2]int{{0, 2}, {121, 2}, {-1, 2}, {math.MinInt, 2}, {math.MaxInt, 2}, {11, -1}, {11, 13}, {11, math.MinInt}, {11, math.MaxInt}, {1, 13}} {
		got, code := eta.List(l[0], l[1])
		expectError(t, "List", got, code, api.ErrRange)
	}
	large := 0
	for level := 1; level <= 120; level++ {
		for _, weight := range []int{0, 1, 2, 3, 12} {
			got, code := eta.List(level, weight)
			if many := tooMany(level, weight); many != (code == api.ErrLarge) || !many && code != api.OK {
				t.Errorf("List(%d, %d): %d elements, %d", level, weight, len(got), code)
			}
			if code == api.ErrLarge {
				large++
				expectError(t, "List", got, code, api.ErrLarge)
			}
			checkList(t, level, weight, got)
		}
	}
	if large == 0 {
		t.Errorf("no list was too large")
	}
}

// tooMany counts the vectors of doubled orders by adding up those with each first order.
func tooMany(level, weight int) bool {
	if weight*psi(level)%6 != 0 {
		return false
	}
	l := divisors(level)
	known := map[[2]int]int{}
	var count func(i, rest int) int
	count = func(i, rest int) int {
		if i == len(l) {
			return max(0, 1-rest)
		}
		n, ok := known[[2]int{i, rest}]
		if ok {
			return n
		}
		part := phi(gcd(l[i], level/l[i]))
		for left := rest; left >= 0; left -= part {
			n = min(n+count(i+1, left), 1<<40)
		}
		known[[2]int{i, rest}] = n
		return n
	}
	return count(0, weight*psi(level)/6) > 20000
}

// checkList checks the elements of a list, and their order.
func checkList(t *testing.T, level, weight int, l []api.Eta) {
	t.Helper()
	for i, e := range l {
		if e.Level != level || eta.Check(e) != api.OK || half(e) != 2*weight || !isModular(e) || !isHolomorphic(e) {
			t.Errorf("List(%d, %d) contains %v", level, weight, e)
		}
		if i > 0 && slices.Compare(l[i-1].Exps, e.Exps) >= 0 {
			t.Errorf("List(%d, %d) contains %v before %v", level, weight, l[i-1], e)
		}
	}
	if weight == 0 && (len(l) != 1 || half(l[0]) != 0) {
		t.Errorf("List(%d, 0): %v", level, l)
	}
}

func TestMemory(t *testing.T) { // R3
	a, b := of(6, 1, 2, 3, 4), of(4, 5, 6, 7)
	for _, f := range []func() (api.Eta, api.Errno){
		func() (api.Eta, api.Errno) { return eta.Times(a, of(1, 0)) },
		func() (api.Eta, api.Errno) { return eta.Times(a, b) },
		func() (api.Eta, api.Errno) { return eta.Power(a, 1) },
		func() (api.Eta, api.Errno) { return eta.Replace(a, 1) },
		func() (api.Eta, api.Errno) { return eta.Raise(a, 6) },
	} {
		got := must(t)(f())
		for i := range got.Exps {
			got.Exps[i] = 99
		}
		if !same(a, of(6, 1, 2, 3, 4)) || !same(b, of(4, 5, 6, 7)) {
			t.Fatalf("a result shares memory with an argument: %v, %v", a, b)
		}
	}
	l, _ := eta.List(6, 2)
	again, _ := eta.List(6, 2)
	for i := range l {
		exps := l[i].Exps[:cap(l[i].Exps)]
		for j := range exps {
			exps[j] = 1000
		}
		l[i] = again[i]
		if !slices.EqualFunc(l, again, same) {
			t.Errorf("the elements of a list share memory")
		}
	}
}
