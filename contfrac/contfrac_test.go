package contfrac_test

import (
	"math"
	"math/big"
	"math/rand"
	"slices"
	"testing"

	"halfplane/api"
	"halfplane/contfrac"
	"halfplane/sl2"
)

const top = api.MaxEntry

var infinity = api.Cusp{P: 1, Q: 0}

// wrong are values that are no cusps, with the error of sl2.CheckCusp.
var wrong = map[api.Cusp]api.Errno{
	{}: api.ErrForm, {P: -1, Q: 0}: api.ErrForm, {P: 2, Q: 0}: api.ErrForm, {P: 2, Q: 4}: api.ErrForm, {P: 0, Q: 2}: api.ErrForm, {P: top, Q: top}: api.ErrForm,
	{P: 1, Q: -1}: api.ErrRange, {P: top + 1, Q: 1}: api.ErrRange, {P: 1, Q: top + 1}: api.ErrRange, {P: math.MinInt, Q: math.MinInt}: api.ErrRange, {P: math.MaxInt, Q: math.MaxInt}: api.ErrRange,
}

// gcd is Euclid's algorithm, for comparison.
func gcd(a, b int) int {
	for b != 0 {
		a, b = b, a%b
	}
	return max(a, -a)
}

// cusps returns all cusps with numbers of at most n.
func cusps(n int) []api.Cusp {
	l := []api.Cusp{infinity}
	for p := -n; p <= n; p++ {
		for q := 1; q <= n; q++ {
			if gcd(p, q) == 1 {
				l = append(l, api.Cusp{P: p, Q: q})
			}
		}
	}
	return l
}

// samples returns small cusps, cusps at the limits, and random ones.
func samples() []api.Cusp {
	l := cusps(25)
	l = append(l, []api.Cusp{{P: top, Q: 1}, {P: -top, Q: 1}, {P: 1, Q: top}, {P: -1, Q: top}, {P: top - 1, Q: top}, {P: 1 - top, Q: top}, {P: top, Q: top - 1}, {P: -top, Q: top - 1}}...)
	// Fibonacci numbers have the longest expansions.
	a, b := 1, 2
	for a+b <= top {
		a, b = b, a+b
		l = append(l, api.Cusp{P: a, Q: b}, api.Cusp{P: -a, Q: b}, api.Cusp{P: b, Q: a})
	}
	r := rand.New(rand.NewSource(1))
	for range 500 {
		if c, e := sl2.Reduce(r.Intn(2*top)-top, r.Intn(1<<uint(r.Intn(31)))); e == api.OK {
			l = append(l, c)
		}
	}
	return l
}

// det is P Q' - P' Q, which is 1 or -1 for Farey neighbours.
func det(a, b api.Cusp) int {
	return a.P*b.Q - b.P*a.Q
}

func areNeighbours(a, b api.Cusp) bool {
	return det(a, b) == 1 || det(a, b) == -1
}

// valueOf is the value of a list by its definition.
func valueOf(l []int) *big.Rat {
	x := big.NewRat(int64(l[len(l)-1]), 1)
	for _, n := range slices.Backward(l[:len(l)-1]) {
		x.Add(x.Inv(x), big.NewRat(int64(n), 1))
	}
	return x
}

func rat(c api.Cusp) *big.Rat {
	return big.NewRat(int64(c.P), int64(c.Q))
}

func TestExpand(t *testing.T) { // P19.1
	for _, c := range samples() {
		l, e := contfrac.Expand(c)
		if c == infinity {
			if e != api.ErrZero || len(l) != 0 {
				t.Error(l, e)
			}
			continue
		}
		if e != api.OK || len(l) == 0 || valueOf(l).Cmp(rat(c)) != 0 || len(l) > 1 && l[len(l)-1] < 2 || slices.ContainsFunc(l[1:], func(n int) bool { return n < 1 }) {
			t.Fatal(c, l, e)
		}
		if v, e := contfrac.Value(l); e != api.OK || v != c {
			t.Fatal(c, l, v, e)
		}
	}
	for _, x := range []struct {
		c    api.Cusp
		want []int
	}{{api.Cusp{P: 5, Q: 7}, []int{0, 1, 2, 2}}, {api.Cusp{P: -5, Q: 7}, []int{-1, 3, 2}}, {api.Cusp{P: 0, Q: 1}, []int{0}}, {api.Cusp{P: -top, Q: 1}, []int{-top}}, {api.Cusp{P: -1, Q: top}, []int{-1, 1, top - 1}}} {
		if l, e := contfrac.Expand(x.c); e != api.OK || !slices.Equal(l, x.want) {
			t.Error(x, l, e)
		}
	}
}

// Every function of a cusp returns the error of sl2.CheckCusp, before any other one.
func TestCuspErrors(t *testing.T) { // P19.1, P19.3, P19.4
	for c, want := range wrong {
		if l, e := contfrac.Expand(c); e != want || len(l) != 0 {
			t.Error("Expand", c, l, e)
		}
		if l, e := contfrac.Path(c); e != want || len(l) != 0 {
			t.Error("Path", c, l, e)
		}
		if a, b, e := contfrac.Parents(c); e != want || a != (api.Cusp{}) || b != (api.Cusp{}) {
			t.Error("Parents", c, a, b, e)
		}
		check := func(a, b api.Cusp, want api.Errno) {
			if l, e := contfrac.Chain(a, b); e != want || len(l) != 0 {
				t.Error("Chain", a, b, l, e)
			}
			if m, e := contfrac.Unimodular(a, b); e != want || m != (api.Mat2{}) {
				t.Error("Unimodular", a, b, m, e)
			}
			if m, e := contfrac.Mediant(a, b); e != want || m != (api.Cusp{}) {
				t.Error("Mediant", a, b, m, e)
			}
		}
		check(c, infinity, want)
		check(infinity, c, want)
		for d := range wrong {
			check(c, d, want)
		}
	}
}

func TestConvergents(t *testing.T) { // P19.1, P19.2
	check := func(l []int) {
		t.Helper()
		kept := slices.Clone(l)
		c, e := contfrac.Convergents(l)
		v, f := contfrac.Value(l)
		if e != api.OK || f != api.OK || len(c) != len(l) || v != c[len(c)-1] {
			t.Fatal(l, c, e, v, f)
		}
		for i, x := range c {
			if sl2.CheckCusp(x) != api.OK || rat(x).Cmp(valueOf(l[:i+1])) != 0 {
				t.Fatal(l, i, x)
			}
			before := infinity
			if i > 0 {
				before = c[i-1]
			}
			if det(x, before) != 2*(i%2)-1 {
				t.Fatal(l, i, x, before)
			}
		}
		if !slices.Equal(l, kept) {
			t.Fatal("the argument was changed")
		}
	}
	r := rand.New(rand.NewSource(2))
	for range 2000 {
		l := []int{r.Intn(101) - 50}
		for range r.Intn(12) {
			l = append(l, 1+r.Intn(4))
		}
		check(l)
	}
	check(slices.Repeat([]int{1}, 43))
	check([]int{-1, top})
	check([]int{0, top})
	check([]int{-top})
	check([]int{7, 1}) // no expansion, but a list
	for _, c := range samples() {
		if l, e := contfrac.Expand(c); e == api.OK {
			check(l)
		}
	}
	if c, e := contfrac.Convergents([]int{0, 1, 2, 2}); e != api.OK || !slices.Equal(c, []api.Cusp{{P: 0, Q: 1}, {P: 1, Q: 1}, {P: 2, Q: 3}, {P: 5, Q: 7}}) {
		t.Error(c, e)
	}
}

func TestListErrors(t *testing.T) { // P19.1
	for _, x := range []struct {
		l    []int
		want api.Errno
	}{
		{nil, api.ErrForm}, {[]int{}, api.ErrForm},
		{[]int{top + 1}, api.ErrRange}, {[]int{-top - 1}, api.ErrRange}, {[]int{math.MinInt}, api.ErrRange}, {[]int{math.MaxInt}, api.ErrRange},
		{[]int{0, 0}, api.ErrRange}, {[]int{0, -1}, api.ErrRange}, {[]int{3, 1, 0}, api.ErrRange}, {[]int{0, top + 1}, api.ErrRange}, {[]int{0, 1, math.MinInt}, api.ErrRange},
		// The first convergents are too large as well.
		{[]int{top, top, 0}, api.ErrRange}, {slices.Repeat([]int{1}, 65), api.ErrRange},
		{slices.Repeat([]int{1}, 64), api.ErrLarge}, {slices.Repeat([]int{1}, 44), api.ErrLarge}, {[]int{top, 1}, api.ErrLarge}, {[]int{-top, top}, api.ErrLarge}, {[]int{0, top, 1}, api.ErrLarge}, {[]int{0, 1, top}, api.ErrLarge},
		{[]int{top, top}, api.ErrLarge}, {[]int{2, top}, api.ErrLarge},
	} {
		if c, e := contfrac.Convergents(x.l); e != x.want || len(c) != 0 {
			t.Error(x, c, e)
		}
		if c, e := contfrac.Value(x.l); e != x.want || c != (api.Cusp{}) {
			t.Error(x, c, e)
		}
	}
	// The numerators, but not the denominators, stay small.
	if c, e := contfrac.Value([]int{-1, 1, top - 1}); e != api.OK || c != (api.Cusp{P: -1, Q: top}) {
		t.Error(c, e)
	}
}

func TestBestApproximation(t *testing.T) { // P19.2
	for _, x := range cusps(22) {
		if x == infinity {
			continue
		}
		l, _ := contfrac.Expand(x)
		c, _ := contfrac.Convergents(l)
		for i := 1; i < len(c); i++ {
			least := c[i-1].Q*x.P - c[i-1].P*x.Q
			for s := 1; s < c[i].Q; s++ {
				// The nearest multiples of the denominator are the worst case.
				rest := ((s*x.P)%x.Q + x.Q) % x.Q
				if min(rest, x.Q-rest) < max(least, -least) {
					t.Fatal(x, i, s)
				}
			}
		}
	}
}

// pathOf follows the definition of the path.
func pathOf(c api.Cusp) []api.Cusp {
	path := []api.Cusp{infinity}
	if l, e := contfrac.Expand(c); e == api.OK {
		more, _ := contfrac.Convergents(l)
		path = append(path, more...)
	}
	return path
}

func TestPath(t *testing.T) { // P19.3
	for _, c := range samples() {
		l, e := contfrac.Path(c)
		if e != api.OK || !slices.Equal(l, pathOf(c)) || l[0] != infinity || l[len(l)-1] != c {
			t.Fatal(c, l, e)
		}
		for i := 1; i < len(l); i++ {
			if !areNeighbours(l[i-1], l[i]) {
				t.Fatal(c, l)
			}
		}
	}
	for _, x := range []struct{ c, before api.Cusp }{{infinity, api.Cusp{}}, {api.Cusp{P: -4, Q: 1}, infinity}} {
		if l, e := contfrac.Path(x.c); e != api.OK || l[len(l)-1] != x.c || len(l) > 1 && l[0] != x.before {
			t.Error(x, l, e)
		}
	}
	if l, e := contfrac.Path(infinity); e != api.OK || len(l) != 1 {
		t.Error(l, e)
	}
}

func TestChain(t *testing.T) { // P19.3
	check := func(a, b api.Cusp) {
		t.Helper()
		l, e := contfrac.Chain(a, b)
		if e != api.OK || l[0] != a || l[len(l)-1] != b {
			t.Fatal(a, b, l, e)
		}
		for i := 1; i < len(l); i++ {
			if !areNeighbours(l[i-1], l[i]) {
				t.Fatal(a, b, l)
			}
		}
		from, to := pathOf(a), pathOf(b)
		common := 0
		for common < len(from) && common < len(to) && from[common] == to[common] {
			common++
		}
		want := slices.Clone(from[common-1:])
		slices.Reverse(want)
		if want = append(want, to[common:]...); !slices.Equal(l, want) {
			t.Fatal(a, b, l, want)
		}
		back, e := contfrac.Chain(b, a)
		slices.Reverse(back)
		if e != api.OK || !slices.Equal(l, back) {
			t.Fatal(a, b, l, back)
		}
	}
	small := cusps(7)
	for _, a := range small {
		for _, b := range small {
			check(a, b)
		}
	}
	l := samples()
	for i := range l {
		check(l[i], l[len(l)-1-i])
		check(l[i], l[i])
		check(infinity, l[i])
	}
	for _, x := range []struct {
		a, b api.Cusp
		want []api.Cusp
	}{
		{api.Cusp{P: 5, Q: 7}, api.Cusp{P: 1, Q: 2}, []api.Cusp{{P: 5, Q: 7}, {P: 2, Q: 3}, {P: 1, Q: 1}, {P: 0, Q: 1}, {P: 1, Q: 2}}},
		{infinity, infinity, []api.Cusp{infinity}},
		{api.Cusp{P: 1, Q: 2}, api.Cusp{P: 1, Q: 2}, []api.Cusp{{P: 1, Q: 2}}},
		{api.Cusp{P: 3, Q: 1}, api.Cusp{P: 5, Q: 1}, []api.Cusp{{P: 3, Q: 1}, infinity, {P: 5, Q: 1}}},
		{api.Cusp{P: 0, Q: 1}, infinity, []api.Cusp{{P: 0, Q: 1}, infinity}},
	} {
		if l, e := contfrac.Chain(x.a, x.b); e != api.OK || !slices.Equal(l, x.want) {
			t.Error(x, l, e)
		}
	}
}

func TestUnimodular(t *testing.T) { // P19.3
	check := func(a, b api.Cusp) {
		t.Helper()
		m, e := contfrac.Unimodular(a, b)
		if !areNeighbours(a, b) {
			if e != api.ErrForm || m != (api.Mat2{}) {
				t.Fatal(a, b, m, e)
			}
			return
		}
		zero, _ := sl2.Apply(m, api.Cusp{P: 0, Q: 1})
		end, _ := sl2.Apply(m, infinity)
		if e != api.OK || sl2.Check(m) != api.OK || zero != a || end != b || m.A != b.P || m.C != b.Q {
			t.Fatal(a, b, m, e)
		}
	}
	l := cusps(8)
	for _, a := range l {
		for _, b := range l {
			check(a, b)
		}
	}
	check(api.Cusp{P: top - 1, Q: top}, api.Cusp{P: 1, Q: 1})
	check(api.Cusp{P: 1 - top, Q: top}, api.Cusp{P: -1, Q: 1})
	check(api.Cusp{P: -top, Q: 1}, infinity)
	check(api.Cusp{P: top, Q: 1}, api.Cusp{P: -top, Q: 1})
	check(api.Cusp{P: top - 1, Q: top}, api.Cusp{P: top - 2, Q: top - 1})
	check(api.Cusp{P: top, Q: top - 1}, api.Cusp{P: -top, Q: top - 1})
	if m, e := contfrac.Unimodular(infinity, api.Cusp{P: 3, Q: 1}); e != api.OK || m != (api.Mat2{A: 3, B: -1, C: 1}) {
		t.Error(m, e)
	}
}

func TestMediant(t *testing.T) { // P19.4
	check := func(a, b api.Cusp) {
		t.Helper()
		c, e := contfrac.Mediant(a, b)
		x := a
		if x == infinity {
			x.P = -1
		}
		if det(b, x) != 1 {
			if e != api.ErrForm || c != (api.Cusp{}) {
				t.Fatal(a, b, c, e)
			}
			return
		}
		want := api.Cusp{P: x.P + b.P, Q: x.Q + b.Q}
		if want.P < -top || want.P > top || want.Q > top {
			if e != api.ErrLarge || c != (api.Cusp{}) {
				t.Fatal(a, b, c, e)
			}
			return
		}
		if e != api.OK || c != want || sl2.CheckCusp(c) != api.OK || !areNeighbours(a, c) || !areNeighbours(c, b) {
			t.Fatal(a, b, c, e)
		}
	}
	l := cusps(9)
	for _, a := range l {
		for _, b := range l {
			check(a, b)
		}
	}
	for _, c := range []struct{ a, b api.Cusp }{
		{api.Cusp{P: top, Q: 1}, infinity}, {api.Cusp{P: top - 1, Q: 1}, infinity}, {infinity, api.Cusp{P: -top, Q: 1}}, {infinity, api.Cusp{P: 1 - top, Q: 1}},
		{api.Cusp{P: 0, Q: 1}, api.Cusp{P: 1, Q: top}}, {api.Cusp{P: 0, Q: 1}, api.Cusp{P: 1, Q: top - 1}}, {api.Cusp{P: -1, Q: top}, api.Cusp{P: 0, Q: 1}},
		{api.Cusp{P: top - 1, Q: 1}, api.Cusp{P: top, Q: 1}}, {api.Cusp{P: -top, Q: 1}, api.Cusp{P: 1 - top, Q: 1}}, {infinity, infinity},
		{api.Cusp{P: 1, Q: 1}, api.Cusp{P: top, Q: top - 1}},
	} {
		check(c.a, c.b)
		check(c.b, c.a)
	}
	for _, x := range []struct {
		a, b, want api.Cusp
		e          api.Errno
	}{
		{api.Cusp{P: 2, Q: 3}, api.Cusp{P: 3, Q: 4}, api.Cusp{P: 5, Q: 7}, api.OK}, {api.Cusp{P: 3, Q: 4}, api.Cusp{P: 2, Q: 3}, api.Cusp{}, api.ErrForm},
		{api.Cusp{P: 7, Q: 1}, infinity, api.Cusp{P: 8, Q: 1}, api.OK}, {infinity, api.Cusp{P: 7, Q: 1}, api.Cusp{P: 6, Q: 1}, api.OK},
		{infinity, infinity, api.Cusp{}, api.ErrForm}, {infinity, api.Cusp{P: 1, Q: 2}, api.Cusp{}, api.ErrForm}, {api.Cusp{P: 1, Q: 3}, api.Cusp{P: 2, Q: 3}, api.Cusp{}, api.ErrForm},
		{api.Cusp{P: 1, Q: 2}, api.Cusp{P: 1, Q: 2}, api.Cusp{}, api.ErrForm}, {api.Cusp{P: top, Q: 1}, infinity, api.Cusp{}, api.ErrLarge}, {infinity, api.Cusp{P: -top, Q: 1}, api.Cusp{}, api.ErrLarge},
		{api.Cusp{P: 0, Q: 1}, api.Cusp{P: 1, Q: top}, api.Cusp{}, api.ErrLarge},
	} {
		if c, e := contfrac.Mediant(x.a, x.b); e != x.e || c != x.want {
			t.Error(x, c, e)
		}
	}
}

func TestParents(t *testing.T) { // P19.4
	for _, c := range samples() {
		a, b, e := contfrac.Parents(c)
		if c.Q < 2 {
			if e != api.ErrForm || a != (api.Cusp{}) || b != (api.Cusp{}) {
				t.Fatal(c, a, b, e)
			}
			continue
		}
		if e != api.OK || a.Q >= c.Q || b.Q >= c.Q || a.Q < 1 || b.Q < 1 {
			t.Fatal(c, a, b, e)
		}
		if m, e := contfrac.Mediant(a, b); e != api.OK || m != c {
			t.Fatal(c, a, b, m, e)
		}
	}
	if a, b, e := contfrac.Parents(api.Cusp{P: 5, Q: 7}); e != api.OK || a != (api.Cusp{P: 2, Q: 3}) || b != (api.Cusp{P: 3, Q: 4}) {
		t.Error(a, b, e)
	}
	if a, b, e := contfrac.Parents(api.Cusp{P: -1, Q: 2}); e != api.OK || a != (api.Cusp{P: -1, Q: 1}) || b != (api.Cusp{P: 0, Q: 1}) {
		t.Error(a, b, e)
	}
}

func TestFarey(t *testing.T) { // P19.4
	for n := 1; n <= 60; n++ {
		var want []api.Cusp
		for q := 1; q <= n; q++ {
			for p := range q + 1 {
				if gcd(p, q) == 1 {
					want = append(want, api.Cusp{P: p, Q: q})
				}
			}
		}
		slices.SortFunc(want, func(a, b api.Cusp) int { return det(a, b) })
		l, e := contfrac.Farey(n)
		if e != api.OK || !slices.Equal(l, want) {
			t.Fatal(n, l, e)
		}
		for i := 1; i < len(l); i++ {
			if det(l[i], l[i-1]) != 1 {
				t.Fatal(n, l)
			}
		}
	}
	if l, e := contfrac.Farey(3); e != api.OK || !slices.Equal(l, []api.Cusp{{P: 0, Q: 1}, {P: 1, Q: 3}, {P: 1, Q: 2}, {P: 2, Q: 3}, {P: 1, Q: 1}}) {
		t.Error(l, e)
	}
	for _, n := range []int{0, -1, 61, math.MinInt, math.MaxInt} {
		if l, e := contfrac.Farey(n); e != api.ErrRange || len(l) != 0 {
			t.Error(n, l, e)
		}
	}
}

// Results of equal calls do not share memory.
func TestMemory(t *testing.T) { // R3
	c, d := api.Cusp{P: 5, Q: 7}, api.Cusp{P: 1, Q: 2}
	for _, do := range []func() ([]api.Cusp, api.Errno){
		func() ([]api.Cusp, api.Errno) { return contfrac.Path(c) },
		func() ([]api.Cusp, api.Errno) { return contfrac.Chain(c, d) },
		func() ([]api.Cusp, api.Errno) { return contfrac.Farey(5) },
		func() ([]api.Cusp, api.Errno) { return contfrac.Convergents([]int{1, 2, 3}) },
	} {
		l, _ := do()
		kept := slices.Clone(l)
		clear(l[:cap(l)])
		if again, _ := do(); !slices.Equal(again, kept) {
			t.Error(again, kept)
		}
	}
}
