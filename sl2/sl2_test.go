package sl2_test

import (
	"math"
	"math/rand"
	"slices"
	"testing"

	"halfplane/api"
	"halfplane/sl2"
)

const top = api.MaxEntry

var (
	unit  = api.Mat2{A: 1, D: 1}
	minus = api.Mat2{A: -1, D: -1}
	s     = api.Mat2{B: -1, C: 1}
	t1    = api.Mat2{A: 1, B: 1, D: 1}
)

// beyond are numbers that no entry may be.
var beyond = []int{top + 1, -top - 1, math.MaxInt, math.MinInt}

// times is the product, for comparison.
func times(x, y api.Mat2) api.Mat2 {
	return api.Mat2{A: x.A*y.A + x.B*y.C, B: x.A*y.B + x.B*y.D, C: x.C*y.A + x.D*y.C, D: x.C*y.B + x.D*y.D}
}

// fits reports whether all entries are in their range.
func fits(m api.Mat2) bool {
	for _, n := range []int{m.A, m.B, m.C, m.D} {
		if n < -top || n > top {
			return false
		}
	}
	return true
}

// spoilt returns the matrices that result from m if one entry is beyond the range.
func spoilt(m api.Mat2) []api.Mat2 {
	var l []api.Mat2
	for _, n := range beyond {
		for i := range 4 {
			x := m
			*[]*int{&x.A, &x.B, &x.C, &x.D}[i] = n
			l = append(l, x)
		}
	}
	return l
}

// small returns all matrices of SL2(Z) with entries from -n to n.
func small(n int) []api.Mat2 {
	var l []api.Mat2
	for a := -n; a <= n; a++ {
		for b := -n; b <= n; b++ {
			for c := -n; c <= n; c++ {
				for d := -n; d <= n; d++ {
					if a*d-b*c == 1 {
						l = append(l, api.Mat2{A: a, B: b, C: c, D: d})
					}
				}
			}
		}
	}
	return l
}

// random returns a matrix of SL2(Z) whose entries may be great.
func random(r *rand.Rand) api.Mat2 {
	m := unit
	if r.Intn(2) == 0 {
		m = minus
	}
	for range r.Intn(40) {
		next := times(times(m, s), api.Mat2{A: 1, B: r.Intn(9) - 4, D: 1})
		if !fits(next) {
			break
		}
		m = next
	}
	return m
}

func TestDet(t *testing.T) { // P18.1
	for _, c := range []struct {
		m    api.Mat2
		want int
	}{
		{api.Mat2{}, 0}, {unit, 1}, {s, 1}, {api.Mat2{A: 1, B: 2, C: 3, D: 4}, -2},
		{api.Mat2{A: top, B: -top, C: top, D: top}, 1 << 61}, {api.Mat2{A: -top, B: top, C: top, D: top}, -1 << 61},
	} {
		if d, e := sl2.Det(c.m); d != c.want || e != api.OK {
			t.Error(c, d, e)
		}
	}
	for _, m := range spoilt(unit) {
		if d, e := sl2.Det(m); d != 0 || e != api.ErrRange {
			t.Error(m, d, e)
		}
	}
}

func TestCheck(t *testing.T) { // P18.1
	for a := -3; a <= 3; a++ {
		for b := -3; b <= 3; b++ {
			for c := -3; c <= 3; c++ {
				for d := -3; d <= 3; d++ {
					want := api.ErrMember
					if a*d-b*c == 1 {
						want = api.OK
					}
					if e := sl2.Check(api.Mat2{A: a, B: b, C: c, D: d}); e != want {
						t.Fatal(a, b, c, d, e)
					}
				}
			}
		}
	}
	for _, m := range []api.Mat2{{A: 1, B: top, D: 1}, {A: -1, C: -top, D: -1}, {A: top, B: top - 1, C: 1, D: 1}} {
		if e := sl2.Check(m); e != api.OK {
			t.Error(m, e)
		}
	}
}

// Every function of a matrix returns the error of Check, before any other one.
func TestMatrixErrors(t *testing.T) { // P18.1, P18.3, P18.4
	bad := map[api.Mat2]api.Errno{{}: api.ErrMember, {A: 1, D: -1}: api.ErrMember, {A: 2, D: 1}: api.ErrMember, {A: top, B: top, C: top, D: top}: api.ErrMember}
	for _, m := range spoilt(s) {
		bad[m] = api.ErrRange
	}
	for m, want := range bad {
		if e := sl2.Check(m); e != want {
			t.Error("Check", m, e)
		}
		if x, e := sl2.Inverse(m); e != want || x != (api.Mat2{}) {
			t.Error("Inverse", m, x, e)
		}
		for _, n := range []int{0, 1, -1, 1001, math.MinInt} {
			if x, e := sl2.Power(m, n); e != want || x != (api.Mat2{}) {
				t.Error("Power", m, n, x, e)
			}
		}
		if w, e := sl2.Factor(m); e != want || w.Neg || len(w.Exps) != 0 {
			t.Error("Factor", m, w, e)
		}
		if n, e := sl2.Abelian(m); e != want || n != 0 {
			t.Error("Abelian", m, n, e)
		}
	}
}

func TestMul(t *testing.T) { // P18.1
	r := rand.New(rand.NewSource(1))
	entry := func() int { return r.Intn(1<<uint(1+r.Intn(20))) - r.Intn(1<<uint(1+r.Intn(20))) }
	matrix := func() api.Mat2 { return api.Mat2{A: entry(), B: entry(), C: entry(), D: entry()} }
	large := 0
	for range 3000 {
		x, y, z := matrix(), matrix(), matrix()
		xy, e := sl2.Mul(x, y)
		if !fits(times(x, y)) {
			large++
			if e != api.ErrLarge || xy != (api.Mat2{}) {
				t.Fatal(x, y, xy, e)
			}
			continue
		}
		if e != api.OK || xy != times(x, y) {
			t.Fatal(x, y, xy, e)
		}
		yz, e := sl2.Mul(y, z)
		if e != api.OK {
			continue
		}
		left, e := sl2.Mul(xy, z)
		right, f := sl2.Mul(x, yz)
		if left != right || e != f {
			t.Fatal(x, y, z, left, right)
		}
	}
	if large < 100 {
		t.Error(large)
	}
	full := api.Mat2{A: top, B: top, C: top, D: top}
	if m, e := sl2.Mul(full, full); e != api.ErrLarge || m != (api.Mat2{}) {
		t.Error(m, e)
	}
	if m, e := sl2.Mul(full, unit); e != api.OK || m != full {
		t.Error(m, e)
	}
	if m, e := sl2.Mul(api.Mat2{A: 1, B: top - 1, D: 1}, t1); e != api.OK || m.B != top {
		t.Error(m, e)
	}
	if m, e := sl2.Mul(api.Mat2{A: 1, B: top, D: 1}, t1); e != api.ErrLarge || m != (api.Mat2{}) {
		t.Error(m, e)
	}
	for _, m := range spoilt(unit) {
		if x, e := sl2.Mul(m, full); e != api.ErrRange || x != (api.Mat2{}) {
			t.Error(m, x, e)
		}
		if x, e := sl2.Mul(full, m); e != api.ErrRange || x != (api.Mat2{}) {
			t.Error(m, x, e)
		}
	}
}

func TestInverse(t *testing.T) { // P18.1
	l := append(small(4), api.Mat2{A: 1, B: top, D: 1}, api.Mat2{A: top, B: top - 1, C: 1, D: 1})
	for _, m := range l {
		x, e := sl2.Inverse(m)
		if e != api.OK || times(m, x) != unit || times(x, m) != unit {
			t.Fatal(m, x, e)
		}
	}
}

func TestPower(t *testing.T) { // P18.1
	for _, m := range append(small(3), api.Mat2{A: 1, B: 1 << 28, D: 1}, api.Mat2{A: 1, C: -1 << 25, D: 1}, api.Mat2{A: 1, B: top, D: 1}) {
		inverse, _ := sl2.Inverse(m)
		for _, x := range []struct {
			base api.Mat2
			sign int
		}{{m, 1}, {inverse, -1}} {
			want, large := unit, false
			for n := range 1001 {
				got, e := sl2.Power(m, x.sign*n)
				if large && (e != api.ErrLarge || got != (api.Mat2{})) || !large && (e != api.OK || got != want) {
					t.Fatal(m, n, got, e)
				}
				if large && n > 50 {
					break
				}
				if !large {
					want = times(want, x.base)
					large = !fits(want)
				}
			}
		}
	}
	if m, e := sl2.Power(api.Mat2{A: 1, B: 1 << 20, D: 1}, -1000); e != api.OK || m != (api.Mat2{A: 1, B: -1000 << 20, D: 1}) {
		t.Error(m, e)
	}
	if m, e := sl2.Power(api.Mat2{A: 2, B: 1, C: 1, D: 1}, 1000); e != api.ErrLarge || m != (api.Mat2{}) {
		t.Error(m, e)
	}
	for _, n := range []int{1001, -1001, math.MaxInt, math.MinInt} {
		if m, e := sl2.Power(api.Mat2{A: 2, B: 1, C: 1, D: 1}, n); e != api.ErrRange || m != (api.Mat2{}) {
			t.Error(n, m, e)
		}
	}
}

// gcd is Euclid's algorithm, for comparison.
func gcd(a, b int) int {
	for b != 0 {
		a, b = b, a%b
	}
	return max(a, -a)
}

func TestCheckCusp(t *testing.T) { // P18.2
	for p := -12; p <= 12; p++ {
		for q := -3; q <= 12; q++ {
			want := api.OK
			switch {
			case q < 0:
				want = api.ErrRange
			case q == 0 && p != 1 || gcd(p, q) != 1:
				want = api.ErrForm
			}
			if e := sl2.CheckCusp(api.Cusp{P: p, Q: q}); e != want {
				t.Error(p, q, e)
			}
		}
	}
	for _, c := range []api.Cusp{{P: top, Q: 1}, {P: -top, Q: 1}, {P: 1, Q: top}, {P: top - 1, Q: top}} {
		if e := sl2.CheckCusp(c); e != api.OK {
			t.Error(c, e)
		}
	}
	for _, n := range beyond {
		for _, c := range []api.Cusp{{P: n, Q: 1}, {P: 1, Q: n}, {P: n, Q: n}, {P: n, Q: 0}} {
			if e := sl2.CheckCusp(c); e != api.ErrRange {
				t.Error(c, e)
			}
		}
	}
	if e := sl2.CheckCusp(api.Cusp{P: top, Q: top}); e != api.ErrForm {
		t.Error(e)
	}
}

func TestReduce(t *testing.T) { // P18.2
	for p := -30; p <= 30; p++ {
		for q := -30; q <= 30; q++ {
			c, e := sl2.Reduce(p, q)
			if p == 0 && q == 0 {
				if e != api.ErrZero || c != (api.Cusp{}) {
					t.Error(c, e)
				}
				continue
			}
			if e != api.OK || sl2.CheckCusp(c) != api.OK || c.P*q != p*c.Q {
				t.Error(p, q, c, e)
			}
		}
	}
	for _, x := range [][4]int{{top, -top, -1, 1}, {-top, 0, 1, 0}, {0, -top, 0, 1}, {-top, -top / 2, 2, 1}, {-top, top, -1, 1}, {6, -4, -3, 2}} {
		if c, e := sl2.Reduce(x[0], x[1]); e != api.OK || c != (api.Cusp{P: x[2], Q: x[3]}) {
			t.Error(x, c, e)
		}
	}
	for _, n := range beyond {
		for _, x := range [][2]int{{n, 1}, {1, n}, {n, 0}, {0, n}, {n, n}} {
			if c, e := sl2.Reduce(x[0], x[1]); e != api.ErrRange || c != (api.Cusp{}) {
				t.Error(x, c, e)
			}
		}
	}
}

// cusps returns all cusps with numbers of at most n.
func cusps(n int) []api.Cusp {
	l := []api.Cusp{{P: 1, Q: 0}}
	for p := -n; p <= n; p++ {
		for q := 1; q <= n; q++ {
			if gcd(p, q) == 1 {
				l = append(l, api.Cusp{P: p, Q: q})
			}
		}
	}
	return l
}

func TestApply(t *testing.T) { // P18.2
	r := rand.New(rand.NewSource(2))
	entry := func() int { return r.Intn(13) - 6 }
	for range 1000 {
		x, y := api.Mat2{A: entry(), B: entry(), C: entry(), D: entry()}, api.Mat2{A: entry(), B: entry(), C: entry(), D: entry()}
		dx, _ := sl2.Det(x)
		dy, _ := sl2.Det(y)
		for _, c := range cusps(4) {
			image, e := sl2.Apply(x, c)
			if dx == 0 {
				if e != api.ErrSingular || image != (api.Cusp{}) {
					t.Fatal(x, c, image, e)
				}
				continue
			}
			want, _ := sl2.Reduce(x.A*c.P+x.B*c.Q, x.C*c.P+x.D*c.Q)
			if e != api.OK || image != want {
				t.Fatal(x, c, image, e)
			}
			if dy != 0 {
				first, _ := sl2.Apply(y, c)
				second, _ := sl2.Apply(x, first)
				if both, e := sl2.Apply(times(x, y), c); e != api.OK || both != second {
					t.Fatal(x, y, c, both, second)
				}
			}
		}
	}
	for _, x := range []struct {
		m    api.Mat2
		c    api.Cusp
		want api.Cusp
	}{
		{api.Mat2{A: 2, B: 1, C: 1, D: 1}, api.Cusp{P: 1, Q: 0}, api.Cusp{P: 2, Q: 1}},
		{api.Mat2{A: 2, B: 1, C: 1, D: 1}, api.Cusp{P: -1, Q: 1}, api.Cusp{P: 1, Q: 0}},
		{api.Mat2{A: -top, D: -top}, api.Cusp{P: 2, Q: top - 1}, api.Cusp{P: 2, Q: top - 1}},
		{api.Mat2{A: top, D: 1}, api.Cusp{P: 1, Q: top}, api.Cusp{P: 1, Q: 1}},
		{api.Mat2{A: -1, D: 1}, api.Cusp{P: 1, Q: 0}, api.Cusp{P: 1, Q: 0}},
	} {
		if c, e := sl2.Apply(x.m, x.c); e != api.OK || c != x.want {
			t.Error(x, c, e)
		}
	}
}

func TestApplyErrors(t *testing.T) { // P18.2
	for _, x := range []struct {
		m    api.Mat2
		c    api.Cusp
		want api.Errno
	}{
		{api.Mat2{A: top + 1}, api.Cusp{P: top + 1, Q: 1}, api.ErrRange},
		{api.Mat2{D: math.MinInt}, api.Cusp{P: 1, Q: 1}, api.ErrRange},
		{api.Mat2{A: 1, B: 2, C: 2, D: 4}, api.Cusp{P: top + 1, Q: 1}, api.ErrSingular},
		{api.Mat2{}, api.Cusp{P: 2, Q: 2}, api.ErrSingular},
		{unit, api.Cusp{P: top + 1, Q: 1}, api.ErrRange},
		{unit, api.Cusp{P: 1, Q: -1}, api.ErrRange},
		{unit, api.Cusp{P: 2, Q: 2}, api.ErrForm},
		{unit, api.Cusp{P: -1, Q: 0}, api.ErrForm},
		{unit, api.Cusp{}, api.ErrForm},
		{api.Mat2{A: 2, D: 1}, api.Cusp{P: top - 1, Q: 1}, api.ErrLarge},
		{api.Mat2{A: 1, D: 2}, api.Cusp{P: 1, Q: top - 1}, api.ErrLarge},
		{t1, api.Cusp{P: top, Q: 1}, api.ErrLarge},
		{api.Mat2{A: top, B: top, C: top, D: -top}, api.Cusp{P: top, Q: top - 1}, api.ErrLarge},
	} {
		if c, e := sl2.Apply(x.m, x.c); e != x.want || c != (api.Cusp{}) {
			t.Error(x, c, e)
		}
	}
}

// word follows the definition of the word of a matrix.
func word(m api.Mat2) api.STWord {
	var w api.STWord
	for m.C != 0 {
		size := max(m.C, -m.C)
		q := int(math.Floor(float64(m.A) / float64(m.C)))
		for q -= 2; 2*(m.A-q*m.C) <= -size || 2*(m.A-q*m.C) > size; q++ {
		}
		w.Exps = append(w.Exps, q)
		m = times(api.Mat2{B: 1, C: -1}, times(api.Mat2{A: 1, B: -q, D: 1}, m))
	}
	if m.A == 1 {
		return api.STWord{Exps: append(w.Exps, m.B)}
	}
	return api.STWord{Neg: true, Exps: append(w.Exps, -m.B)}
}

func TestFactor(t *testing.T) { // P18.3
	longest := 0
	check := func(m api.Mat2) {
		t.Helper()
		w, e := sl2.Factor(m)
		want := word(m)
		if e != api.OK || w.Neg != want.Neg || !slices.Equal(w.Exps, want.Exps) {
			t.Fatal(m, w, e, want)
		}
		if x, e := sl2.Value(w); e != api.OK || x != m || len(w.Exps) > 33 {
			t.Fatal(m, w, x, e)
		}
		longest = max(longest, len(w.Exps))
	}
	for _, m := range small(6) {
		check(m)
	}
	r := rand.New(rand.NewSource(3))
	for range 3000 {
		check(random(r))
	}
	for _, m := range []api.Mat2{
		{A: 1, B: top, D: 1}, {A: -1, B: top, D: -1}, {A: 1, C: top, D: 1}, {A: -1, C: -top, D: -1}, {B: -1, C: 1, D: top}, {A: top, B: -1, C: 1},
		{A: top, B: top - 1, C: 1, D: 1}, {A: 1 - top, B: top, C: -1, D: 1}, {A: top - 1, B: top - 2, C: top, D: top - 1}, {A: 1, B: 1 - top, C: -1, D: top},
	} {
		check(m)
	}
	// With nearest integers the denominators grow slowest for 2, -2, 2, -2, ..
	m := unit
	for n := 2; ; n = -n {
		next := times(times(m, api.Mat2{A: 1, B: n, D: 1}), s)
		if !fits(next) {
			break
		}
		m = next
		check(m)
	}
	if longest < 24 {
		t.Error(longest)
	}
	for _, x := range []struct {
		m    api.Mat2
		neg  bool
		exps []int
	}{
		{api.Mat2{A: 5, B: 2, C: 2, D: 1}, true, []int{2, -2, 0}}, {unit, false, []int{0}}, {minus, true, []int{0}},
		{s, false, []int{0, 0}}, {api.Mat2{B: 1, C: -1}, true, []int{0, 0}}, {api.Mat2{A: -1, B: 3, D: -1}, true, []int{-3}},
		{api.Mat2{A: 1, C: 2, D: 1}, true, []int{0, -2, 0}}, {api.Mat2{A: 1, C: -2, D: 1}, true, []int{0, 2, 0}},
	} {
		if w, e := sl2.Factor(x.m); e != api.OK || w.Neg != x.neg || !slices.Equal(w.Exps, x.exps) {
			t.Error(x, w, e)
		}
	}
}

func TestValue(t *testing.T) { // P18.3
	r := rand.New(rand.NewSource(4))
	large := 0
	for range 3000 {
		w := api.STWord{Neg: r.Intn(2) == 0}
		for range 1 + r.Intn(20) {
			w.Exps = append(w.Exps, r.Intn(7)-3)
		}
		kept := slices.Clone(w.Exps)
		want, ok := unit, true
		for i, n := range w.Exps {
			if i > 0 {
				want = times(want, s)
			}
			want = times(want, api.Mat2{A: 1, B: n, D: 1})
			ok = ok && fits(want)
		}
		if w.Neg {
			want = times(want, minus)
		}
		m, e := sl2.Value(w)
		if ok && (e != api.OK || m != want) || !ok && (e != api.ErrLarge || m != (api.Mat2{})) {
			t.Fatal(w, m, e, want)
		}
		if !ok {
			large++
		}
		if !slices.Equal(w.Exps, kept) {
			t.Fatal("the argument was changed")
		}
	}
	for _, x := range []struct {
		exps []int
		want api.Errno
	}{
		{nil, api.ErrForm}, {[]int{}, api.ErrForm}, {make([]int, 200), api.OK}, {make([]int, 201), api.ErrRange},
		{[]int{top}, api.OK}, {[]int{-top, 0}, api.OK}, {[]int{top + 1}, api.ErrRange}, {[]int{0, math.MinInt}, api.ErrRange},
		{[]int{top, top, top + 1}, api.ErrRange}, {[]int{top, 2, 0}, api.ErrLarge}, {[]int{0, top, 1}, api.OK}, {[]int{0, top, 2}, api.ErrLarge},
		// The whole product is in range, but not its beginnings.
		{[]int{0, top, 2, 0, -2}, api.ErrLarge}, {slices.Repeat([]int{3}, 200), api.ErrLarge}, {slices.Repeat([]int{1}, 200), api.OK},
		{append(make([]int, 200), top+1), api.ErrRange}, {slices.Repeat([]int{math.MaxInt}, 201), api.ErrRange},
	} {
		for _, neg := range []bool{false, true} {
			m, e := sl2.Value(api.STWord{Neg: neg, Exps: x.exps})
			if e != x.want || e != api.OK && m != (api.Mat2{}) {
				t.Error(x, m, e)
			}
		}
	}
}

func TestAbelian(t *testing.T) { // P18.4
	l := small(3)
	class := map[api.Mat2]int{}
	for _, m := range l {
		n, e := sl2.Abelian(m)
		if e != api.OK || n < 0 || n > 11 {
			t.Fatal(m, n, e)
		}
		class[m] = n
	}
	for _, x := range l {
		for _, y := range l {
			xy := times(x, y)
			if n, e := sl2.Abelian(xy); e != api.OK || n != (class[x]+class[y])%12 {
				t.Fatal(x, y, n, e)
			}
		}
	}
	r := rand.New(rand.NewSource(5))
	for range 2000 {
		x, y := random(r), random(r)
		if xy := times(x, y); fits(xy) {
			a, _ := sl2.Abelian(x)
			b, _ := sl2.Abelian(y)
			if n, e := sl2.Abelian(xy); e != api.OK || n != (a+b)%12 {
				t.Fatal(x, y, n, e)
			}
		}
	}
	for m, want := range map[api.Mat2]int{unit: 0, minus: 6, s: 9, t1: 1, {B: -1, C: 1, D: 1}: 10, {A: 1, B: -1, D: 1}: 11, {A: 1, B: -top, D: 1}: 8, {A: 1, B: top, D: 1}: 4} {
		if n, e := sl2.Abelian(m); e != api.OK || n != want {
			t.Error(m, n, e)
		}
	}
}

func TestMemory(t *testing.T) { // R3
	m := api.Mat2{A: 5, B: 2, C: 2, D: 1}
	w, _ := sl2.Factor(m)
	for i := range w.Exps {
		w.Exps[i] = 77
	}
	if v, _ := sl2.Factor(m); !slices.Equal(v.Exps, []int{2, -2, 0}) {
		t.Error(v)
	}
}
