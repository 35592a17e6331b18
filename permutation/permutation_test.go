package permutation_test

import (
	"math"
	"math/big"
	"math/rand"
	"slices"
	"testing"

	"halfplane/api"
	"halfplane/permutation"
)

const top = api.MaxEntry

// malformed returns values that are no coset actions, with the error of Check.
func malformed() map[api.Errno][]api.CosetAction {
	long := make([]int, api.MaxIndex+1)
	for i := range long {
		long[i] = i
	}
	return map[api.Errno][]api.CosetAction{
		api.ErrRange: {{}, {T: []int{0}}, {S: long, T: long}, {S: long, T: []int{0}}, {S: slices.Repeat([]int{-1}, 5000)}},
		api.ErrShape: {{S: []int{0}}, {S: []int{0}, T: []int{0, 1}}, {S: []int{7, 7}, T: []int{0}}, {S: []int{0, 1}, T: long}, {S: long[1:]}},
		api.ErrForm: {
			{S: []int{1}, T: []int{0}}, {S: []int{0}, T: []int{-1}}, {S: []int{math.MaxInt}, T: []int{0}}, {S: []int{0}, T: []int{math.MinInt}},
			{S: []int{1, 1}, T: []int{1, 0}}, {S: []int{1, 0}, T: []int{0, 0}}, {S: []int{0, 2, 1}, T: []int{0, 3, 1}},
			// S^4 = 1 fails, while S followed by T, three times, is S^2.
			{S: []int{2, 3, 4, 0, 1}, T: []int{1, 2, 3, 4, 0}},
			// S followed by T, three times, is not S^2.
			{S: []int{0, 1}, T: []int{1, 0}}, {S: []int{1, 0}, T: []int{0, 1}}, {S: []int{1, 2, 3, 0}, T: []int{3, 0, 1, 2}}, {S: []int{1, 0, 3, 2}, T: []int{1, 2, 3, 0}},
			// Not transitive.
			{S: []int{0, 1}, T: []int{0, 1}}, {S: []int{1, 0, 2}, T: []int{1, 0, 2}}, {S: []int{0, 2, 1, 3}, T: []int{0, 1, 3, 2}}, {S: long[:api.MaxIndex], T: long[:api.MaxIndex]},
		},
	}
}

func TestCheck(t *testing.T) { // P22.1
	for i, a := range samples() {
		if e := permutation.Check(a); e != api.OK {
			t.Error(i, a, e)
		}
	}
	full, _ := permutation.Intersect(lower(12), conjugate(lower(12)))
	if e := permutation.Check(full); e != api.OK || len(full.S) != api.MaxIndex {
		t.Error(len(full.S), e)
	}
	for want, l := range malformed() {
		for i, a := range l {
			if e := permutation.Check(a); e != want {
				t.Error(want, i, e)
			}
		}
	}
}

// conjugate returns the action based at the coset of S.
func conjugate(a api.CosetAction) api.CosetAction {
	based, _ := permutation.Base(a, a.S[0])
	return based
}

// Every function returns the error of Check before any other one.
func TestActionErrors(t *testing.T) { // P22.1 to P22.4
	for want, l := range malformed() {
		for i, a := range l {
			for _, m := range []api.Mat2{unit, {}, {A: top + 1}} {
				for _, x := range []int{0, -1, math.MaxInt} {
					if j, e := permutation.Move(a, x, m); e != want || j != 0 {
						t.Error("Move", want, i, j, e)
					}
				}
				if in, e := permutation.Contains(a, m); e != want || in {
					t.Error("Contains", want, i, in, e)
				}
			}
			for _, x := range []int{0, -1, math.MinInt} {
				if b, e := permutation.Base(a, x); e != want || !isNone(b) {
					t.Error("Base", want, i, b, e)
				}
			}
			if in, e := permutation.Minus(a); e != want || in {
				t.Error("Minus", want, i, in, e)
			}
			if b, e := permutation.Projective(a); e != want || !isNone(b) {
				t.Error("Projective", want, i, b, e)
			}
			if n, e := permutation.Euler(a); e != want || n != 0 {
				t.Error("Euler", want, i, n, e)
			}
			if n, e := permutation.Level(a); e != want || n != 0 {
				t.Error("Level", want, i, n, e)
			}
			if in, e := permutation.Congruence(a); e != want || in {
				t.Error("Congruence", want, i, in, e)
			}
			checkPairErrors(t, a, two, want)
			checkPairErrors(t, two, a, want)
			checkPairErrors(t, a, api.CosetAction{S: []int{1}, T: []int{0}}, want)
			checkPairErrors(t, a, api.CosetAction{}, want)
			checkPairErrors(t, a, api.CosetAction{S: []int{0}}, want)
		}
	}
}

func checkPairErrors(t *testing.T, a, b api.CosetAction, want api.Errno) {
	t.Helper()
	if c, e := permutation.Intersect(a, b); e != want || !isNone(c) {
		t.Error("Intersect", a, b, c, e)
	}
	if in, e := permutation.Within(a, b); e != want || in {
		t.Error("Within", a, b, in, e)
	}
}

func TestMove(t *testing.T) { // P22.1
	r := rand.New(rand.NewSource(2))
	for k, a := range samples() {
		kept := clone(a)
		for range 40 {
			i := r.Intn(len(a.S))
			x, j := word(r, a, i, r.Intn(16))
			y, l := word(r, a, j, r.Intn(16))
			if got := moved(t, a, i, x); got != j {
				t.Fatal(k, i, x, got, j)
			}
			if got := moved(t, a, i, times(x, y)); got != l {
				t.Fatal(k, i, x, y, got, l)
			}
		}
		for i := range a.S {
			if x, y, z := moved(t, a, i, s), moved(t, a, i, t1), moved(t, a, i, minus); x != a.S[i] || y != a.T[i] || z != a.S[a.S[i]] || moved(t, a, i, unit) != i {
				t.Fatal(k, i, x, y, z)
			}
		}
		if !same(a, kept) {
			t.Fatal("the argument was changed")
		}
	}
	// Great powers of T: modulo 13 the pair (1, 0) is moved to (1, b).
	a := lower(13)
	for _, b := range []int{top, -top, top - 1, 13 * 5} {
		if i, j := moved(t, a, a.S[0], api.Mat2{A: 1, B: b, D: 1}), moved(t, a, a.S[0], api.Mat2{A: 1, B: mod(b, 13), D: 1}); i != j {
			t.Error(b, i, j)
		}
	}
	for _, x := range [][3]int{{0, 1, 1}, {1, 0, 2}, {2, 2, 0}} { // S followed by T is 0 to 2, 2 to 1, 1 to 0
		if i := moved(t, two, x[0], s); i != two.S[x[0]] {
			t.Error(x, i)
		}
	}
	if i := moved(t, two, 0, times(s, t1)); i != 2 {
		t.Error(i)
	}
}

func TestMoveErrors(t *testing.T) { // P22.1
	for _, i := range []int{-1, 3, math.MaxInt, math.MinInt} {
		for _, m := range []api.Mat2{unit, {}, {A: top + 1}} {
			if j, e := permutation.Move(two, i, m); e != api.ErrRange || j != 0 {
				t.Error(i, m, j, e)
			}
		}
	}
	for m, want := range map[api.Mat2]api.Errno{{}: api.ErrMember, {A: 1, D: -1}: api.ErrMember, {A: 2, D: 2}: api.ErrMember, {A: top + 1, D: 1}: api.ErrRange, {A: 1, B: math.MinInt, D: 1}: api.ErrRange, {A: 1, C: math.MaxInt, D: 1}: api.ErrRange} {
		if j, e := permutation.Move(two, 2, m); e != want || j != 0 {
			t.Error(m, j, e)
		}
		if in, e := permutation.Contains(two, m); e != want || in {
			t.Error(m, in, e)
		}
	}
}

func TestContains(t *testing.T) { // P22.2
	r := rand.New(rand.NewSource(3))
	for n := 1; n <= 12; n++ {
		a, b := lines(n), lower(n)
		for range 200 {
			m, i := word(r, a, 0, r.Intn(14))
			if in := contains(t, a, m); in != (m.C%n == 0) || in != (i == 0) {
				t.Fatal(n, m, in)
			}
			if in := contains(t, b, m); in != (m.C%n == 0 && mod(m.A-1, n) == 0 && mod(m.D-1, n) == 0) {
				t.Fatal(n, m, in)
			}
		}
	}
	for k, a := range samples() {
		var members []api.Mat2
		for len(members) < 6 {
			if m, i := word(r, a, 0, r.Intn(12)); i == 0 {
				members = append(members, m)
			}
		}
		for _, x := range members {
			for _, y := range members {
				if !contains(t, a, times(x, y)) || !contains(t, a, inverse(x)) {
					t.Fatal(k, x, y)
				}
			}
		}
	}
}

func TestMinus(t *testing.T) { // P22.2
	for k, a := range samples() {
		if in, e := permutation.Minus(a); e != api.OK || in != contains(t, a, minus) {
			t.Error(k, in, e)
		}
	}
	for n := 1; n <= 12; n++ {
		if in, e := permutation.Minus(lower(n)); e != api.OK || in != (n <= 2) {
			t.Error(n, in, e)
		}
		if in, e := permutation.Minus(lines(n)); e != api.OK || !in {
			t.Error(n, in, e)
		}
	}
}

// orbits follows the definition of the projective action.
func orbits(a api.CosetAction) api.CosetAction {
	var l [][2]int
	for i := range a.S {
		if j := a.S[a.S[i]]; i <= j {
			l = append(l, [2]int{i, j})
		}
	}
	find := func(i int) int {
		return slices.IndexFunc(l, func(o [2]int) bool { return o[0] == i || o[1] == i })
	}
	var p api.CosetAction
	for _, o := range l {
		p.S = append(p.S, find(a.S[o[0]]))
		p.T = append(p.T, find(a.T[o[0]]))
	}
	return p
}

func TestProjective(t *testing.T) { // P22.2
	r := rand.New(rand.NewSource(4))
	for k, a := range samples() {
		p, e := permutation.Projective(a)
		if e != api.OK || !same(p, orbits(a)) || permutation.Check(p) != api.OK {
			t.Fatal(k, p, e)
		}
		if in, _ := permutation.Minus(a); in && !same(p, a) {
			t.Fatal(k, a, p)
		}
		for range 30 {
			m, _ := word(r, a, 0, r.Intn(14))
			if contains(t, p, m) != (contains(t, a, m) || contains(t, a, times(minus, m))) {
				t.Fatal(k, m)
			}
		}
		if again, _ := permutation.Projective(p); !same(again, p) {
			t.Fatal(k, p, again)
		}
	}
	// The orbits of S^2 are 0 and 6, 1 and 7, and so on.
	if p, e := permutation.Projective(cyclic(12)); e != api.OK || !same(p, cyclic(6)) {
		t.Error(p, e)
	}
}

// based follows the definition of the action based at i, with a queue.
func based(a api.CosetAction, i int) api.CosetAction {
	number := map[int]int{i: 0}
	queue, order := []int{i}, []int{i}
	for len(queue) > 0 {
		x := queue[0]
		queue = queue[1:]
		for _, y := range []int{a.S[x], a.T[x]} {
			if _, known := number[y]; !known {
				number[y] = len(order)
				order = append(order, y)
				queue = append(queue, y)
			}
		}
	}
	b := clone(a)
	for k, x := range order {
		b.S[k], b.T[k] = number[a.S[x]], number[a.T[x]]
	}
	return b
}

func TestBase(t *testing.T) { // P22.2
	r := rand.New(rand.NewSource(5))
	for k, a := range samples() {
		kept := clone(a)
		for range 6 {
			i := r.Intn(len(a.S))
			b, e := permutation.Base(a, i)
			if e != api.OK || !same(b, based(a, i)) || permutation.Check(b) != api.OK {
				t.Fatal(k, i, b, e)
			}
			for range 10 {
				m, j := word(r, a, i, r.Intn(12))
				if contains(t, b, m) != (j == i) {
					t.Fatal(k, i, m)
				}
			}
			if again, _ := permutation.Base(b, 0); !same(again, b) {
				t.Fatal(k, i, again, b)
			}
		}
		if !same(a, kept) {
			t.Fatal("the argument was changed")
		}
	}
	// From 2, S leads to 2 and T to 1; from 1, S leads to 0.
	if b, e := permutation.Base(two, 2); e != api.OK || !same(b, api.CosetAction{S: []int{0, 2, 1}, T: []int{1, 0, 2}}) {
		t.Error(b, e)
	}
	for _, i := range []int{-1, 3, math.MaxInt, math.MinInt} {
		if b, e := permutation.Base(two, i); e != api.ErrRange || !isNone(b) {
			t.Error(i, b, e)
		}
	}
}

// together follows the definition of the action of the intersection.
func together(a, b api.CosetAction) api.CosetAction {
	n := len(b.S)
	product := api.CosetAction{S: make([]int, len(a.S)*n), T: make([]int, len(a.S)*n)}
	for i := range a.S {
		for j := range b.S {
			product.S[i*n+j] = a.S[i]*n + b.S[j]
			product.T[i*n+j] = a.T[i]*n + b.T[j]
		}
	}
	reached := 1
	order, number := []int{0}, map[int]int{0: 0}
	for k := 0; k < reached; k++ {
		for _, y := range []int{product.S[order[k]], product.T[order[k]]} {
			if _, known := number[y]; !known {
				number[y] = reached
				order = append(order, y)
				reached++
			}
		}
	}
	var c api.CosetAction
	for _, x := range order {
		c.S = append(c.S, number[product.S[x]])
		c.T = append(c.T, number[product.T[x]])
	}
	return c
}

func TestIntersect(t *testing.T) { // P22.3
	r := rand.New(rand.NewSource(6))
	l := samples()
	large := 0
	for range 400 {
		a, b := l[r.Intn(len(l))], l[r.Intn(len(l))]
		want := together(a, b)
		c, e := permutation.Intersect(a, b)
		if len(want.S) > api.MaxIndex {
			large++
			if e != api.ErrLarge || !isNone(c) {
				t.Fatal(a, b, c, e)
			}
		} else if e != api.OK || !same(c, want) || permutation.Check(c) != api.OK {
			t.Fatal(a, b, c, e)
		}
		in, f := permutation.Within(a, b)
		if f != api.OK || in != (len(want.S) == len(a.S)) {
			t.Fatal(a, b, in, f)
		}
		for range 10 {
			m, i := word(r, a, 0, r.Intn(14))
			if e == api.OK && contains(t, c, m) != (i == 0 && contains(t, b, m)) {
				t.Fatal(a, b, m)
			}
			if in && i == 0 && !contains(t, b, m) {
				t.Fatal(a, b, m)
			}
		}
	}
	if large < 5 {
		t.Error(large)
	}
	// The index of an intersection of groups with coprime indices is their product.
	for _, x := range []struct {
		n, m int
		want api.Errno
	}{{128, 9, api.OK}, {1152, 1, api.OK}, {1151, 1, api.OK}, {385, 3, api.ErrLarge}, {77, 15, api.ErrLarge}, {1152, 1151, api.ErrLarge}} {
		c, e := permutation.Intersect(random(r, x.n), random(r, x.m))
		if e != x.want || e == api.OK && len(c.S) != x.n*x.m || e != api.OK && !isNone(c) {
			t.Error(x, len(c.S), e)
		}
	}
}

func TestWithin(t *testing.T) { // P22.3
	for n := 1; n <= 12; n++ {
		for m := 1; m <= 12; m++ {
			for _, x := range []struct {
				a, b api.CosetAction
				want bool
			}{
				{lines(n), lines(m), n%m == 0}, {lower(n), lower(m), n%m == 0}, {lower(n), lines(m), n%m == 0}, {lines(n), lower(m), m <= 2 && n%m == 0},
			} {
				if in, e := permutation.Within(x.a, x.b); e != api.OK || in != x.want {
					t.Error(n, m, in, e)
				}
			}
		}
	}
	// Gamma(12) has exactly MaxIndex cosets.
	full, e := permutation.Intersect(lower(12), conjugate(lower(12)))
	if e != api.OK || len(full.S) != api.MaxIndex {
		t.Fatal(len(full.S), e)
	}
	if both, e := permutation.Intersect(full, cyclic(12)); e != api.OK || !same(both, full) {
		t.Error(len(both.S), e)
	}
	if both, e := permutation.Intersect(full, lines(5)); e != api.ErrLarge || !isNone(both) {
		t.Error(len(both.S), e)
	}
	for _, x := range []struct {
		a    api.CosetAction
		want bool
	}{{cyclic(12), true}, {lines(12), true}, {lines(5), false}, {full, true}, {lower(24), false}} {
		if in, e := permutation.Within(full, x.a); e != api.OK || in != x.want {
			t.Error(len(x.a.S), in, e)
		}
	}
	if in, e := permutation.Within(lines(5), full); e != api.OK || in {
		t.Error(in, e)
	}
}

// lengths returns the lengths of the cycles of the powers of f.
func lengths(n int, f func(int) int) []int {
	var l []int
	for i := range n {
		least, length := i, 1
		for x := f(i); x != i; x = f(x) {
			least = min(least, x)
			length++
		}
		if least == i {
			l = append(l, length)
		}
	}
	return l
}

func TestEuler(t *testing.T) { // P22.4
	for k, a := range samples() {
		p := orbits(a)
		n := len(p.S)
		want := len(lengths(n, func(i int) int { return p.S[i] })) + len(lengths(n, func(i int) int { return p.T[p.S[i]] })) + len(lengths(n, func(i int) int { return p.T[i] })) - n
		euler, e := permutation.Euler(a)
		if e != api.OK || euler != want || euler%2 != 0 || euler > 2 {
			t.Error(k, euler, want, e)
		}
	}
	// The genera of Gamma0(n).
	genera := []int{0, 0, 0, 0, 0, 0, 0, 0, 0, 0, 0, 1, 0, 0, 1, 1, 0, 1, 0, 1, 1, 1, 2, 2, 1, 0, 2, 1, 2, 2, 3, 2, 1, 3, 3, 3, 1, 2, 4, 3, 3}
	for n := 1; n < len(genera); n++ {
		if euler, e := permutation.Euler(lines(n)); e != api.OK || euler != 2-2*genera[n] {
			t.Error(n, euler, e)
		}
	}
	if euler, e := permutation.Euler(lower(13)); e != api.OK || euler != -2 { // genus 2
		t.Error(euler, e)
	}
}

func TestLevel(t *testing.T) { // P22.4
	for n := 1; n <= 14; n++ {
		for _, a := range []api.CosetAction{lines(n), lower(n)} {
			if level, e := permutation.Level(a); e != api.OK || level != n {
				t.Error(n, level, e)
			}
		}
	}
	for n, want := range map[int]int{1: 1, 2: 2, 3: 3, 4: 2, 6: 6, 12: 6} { // -1 is in class 6
		if level, e := permutation.Level(cyclic(n)); e != api.OK || level != want {
			t.Error(n, level, e)
		}
	}
	r := rand.New(rand.NewSource(7))
	l := samples()
	for _, n := range []int{200, 700, api.MaxIndex} {
		l = append(l, random(r, n), random(r, n))
	}
	// Petals of odd prime lengths.
	spikes := []int{1, 2, 3, 5, 6, 8, 9, 11, 14, 15, 18, 20, 21, 23, 26, 29, 30}
	for n := range len(spikes) + 1 {
		if n > 0 {
			l = append(l, petals(spikes[:n]))
		}
	}
	// Loops without spikes change only the length of the outer cycle.
	for n := range 40 {
		l = append(l, petals(slices.Concat(spikes[:14], []int{4}, make([]int, n))), petals(slices.Concat(spikes[:14], []int{12}, make([]int, n))))
	}
	bound, large, near := big.NewInt(1_000_000_000_000_000_000), 0, 0
	for k, a := range l {
		p := orbits(a)
		want := big.NewInt(1)
		for _, c := range lengths(len(p.S), func(i int) int { return p.T[i] }) {
			g := new(big.Int).GCD(nil, nil, want, big.NewInt(int64(c)))
			want.Mul(want, big.NewInt(int64(c)))
			want.Quo(want, g)
		}
		level, e := permutation.Level(a)
		if want.Cmp(bound) > 0 {
			large++
			if want.IsInt64() {
				near++
			}
			if e != api.ErrLarge || level != 0 {
				t.Error(k, level, want, e)
			}
			if in, e := permutation.Congruence(a); e != api.ErrLarge || in {
				t.Error(k, in, e)
			}
		} else if e != api.OK || want.Cmp(big.NewInt(int64(level))) != 0 {
			t.Error(k, level, want, e)
		}
	}
	if large < 2 || near < 2 || large > len(l)-20 {
		t.Error(large, near)
	}
}

// Nothing of a result is used again by a later call, nor by another part of the result.
func TestMemory(t *testing.T) { // R3
	a, b := lower(3), lines(4)
	for k, do := range []func() api.CosetAction{
		func() api.CosetAction { c, _ := permutation.Projective(a); return c },
		func() api.CosetAction { c, _ := permutation.Projective(b); return c },
		func() api.CosetAction { c, _ := permutation.Base(b, 0); return c },
		func() api.CosetAction { c, _ := permutation.Base(whole, 0); return c },
		func() api.CosetAction { c, _ := permutation.Intersect(a, b); return c },
		func() api.CosetAction { c, _ := permutation.Intersect(b, b); return c },
	} {
		keptA, keptB := clone(a), clone(b)
		c := do()
		kept := clone(c)
		spoil(c.S[:cap(c.S)])
		if !slices.Equal(c.T, kept.T) || !same(do(), kept) {
			t.Error(k, "shared")
		}
		spoil(c.T[:cap(c.T)])
		if !same(do(), kept) || !same(a, keptA) || !same(b, keptB) || whole.S[0] != 0 || whole.T[0] != 0 {
			t.Error(k, "shared")
		}
	}
}

// spoil overwrites the whole memory of a list.
func spoil(l []int) {
	for i := range l {
		l[i] = -7
	}
}
