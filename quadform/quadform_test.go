package quadform_test

import (
	"math"
	"math/rand"
	"slices"
	"testing"

	"halfplane/api"
	"halfplane/quadform"
	"halfplane/sl2"
)

// discs returns all discriminants.
func discs() []int {
	var l []int
	for d := -1; d >= -api.MaxDisc; d-- {
		if d%4 == 0 || d%4 == -3 {
			l = append(l, d)
		}
	}
	return l
}

// randomForm returns a form, some of them with great coefficients.
func randomForm(r *rand.Rand) form {
	limit := []int{5, 40, 1000, 10000}[r.Intn(4)]
	for {
		f := form{A: 1 + r.Intn(limit), B: r.Intn(2*limit+1) - limit, C: 1 + r.Intn(limit)}
		if disc(f) < 0 {
			return f
		}
	}
}

func TestCheck(t *testing.T) { // P27.1
	for f, want := range wrong {
		if e := quadform.Check(f); e != want {
			t.Error("Check", f, e)
		}
		if d, e := quadform.Disc(f); e != want || d != 0 {
			t.Error("Disc", f, d, e)
		}
		if g, m, e := quadform.Reduce(f); e != want || g != (form{}) || m != (api.Mat2{}) {
			t.Error("Reduce", f, g, m, e)
		}
		if n, e := quadform.Automorphs(f); e != want || n != 0 {
			t.Error("Automorphs", f, n, e)
		}
		for _, n := range []int{0, -1, 5, math.MaxInt} {
			if k, e := quadform.Represent(f, n); e != want || k != 0 {
				t.Error("Represent", f, n, k, e)
			}
		}
	}
	r := rand.New(rand.NewSource(1))
	for range 500 {
		f := randomForm(r)
		if e := quadform.Check(f); e != api.OK {
			t.Error(f, e)
		}
		if d, e := quadform.Disc(f); e != api.OK || d != disc(f) {
			t.Error(f, d, e)
		}
	}
	for f, want := range map[form]int{{A: 10000, B: 10000, C: 10000}: -300000000, {A: 10000, B: -10000, C: 10000}: -300000000, {A: 10000, B: 0, C: 10000}: -400000000, {A: 10000, B: 9999, C: 2500}: -19999, {A: 1, B: 0, C: 1}: -4, {A: 1, B: 1, C: 1}: -3} {
		if d, e := quadform.Disc(f); e != api.OK || d != want {
			t.Error(f, d, e)
		}
	}
}

func TestReduce(t *testing.T) { // P27.1
	r := rand.New(rand.NewSource(2))
	check := func(f form) {
		t.Helper()
		g, m, e := quadform.Reduce(f)
		if e != api.OK || g != reduced(f) || sl2.Check(m) != api.OK || image(f, m) != g || quadform.Check(g) != api.OK {
			t.Fatal(f, g, m, e)
		}
	}
	for range 3000 {
		f := randomForm(r)
		check(f)
		check(moved(r, f))
		g, _, _ := quadform.Reduce(f)
		if h, _, _ := quadform.Reduce(moved(r, f)); h != g {
			t.Fatal(f, g, h)
		}
	}
	// All forms with small coefficients: all borders of the reduced forms.
	for a := 1; a <= 7; a++ {
		for c := 1; c <= 7; c++ {
			for b := -14; b <= 14; b++ {
				if f := (form{A: a, B: b, C: c}); disc(f) < 0 {
					check(f)
				}
			}
		}
	}
	for f, want := range map[form]form{
		{A: 2, B: -2, C: 3}: {A: 2, B: 2, C: 3}, {A: 3, B: -1, C: 3}: {A: 3, B: 1, C: 3}, {A: 3, B: 2, C: 2}: {A: 2, B: 2, C: 3}, {A: 2, B: -1, C: 3}: {A: 2, B: -1, C: 3}, {A: 3, B: 1, C: 2}: {A: 2, B: -1, C: 3},
		{A: 10000, B: 10000, C: 10000}: {A: 10000, B: 10000, C: 10000}, {A: 10000, B: -10000, C: 10000}: {A: 10000, B: 10000, C: 10000}, {A: 10000, B: 0, C: 1}: {A: 1, B: 0, C: 10000}, {A: 10000, B: 9999, C: 2500}: {A: 2, B: -1, C: 2500}, {A: 9999, B: -9998, C: 2500}: {A: 3, B: 2, C: 2500},
	} {
		if g, _, e := quadform.Reduce(f); e != api.OK || g != want {
			t.Error(f, g, e)
		}
	}
}

func TestAutomorphs(t *testing.T) { // P27.1
	// An automorph of a reduced form maps (1, 0) and (0, 1) to vectors with small entries.
	count := func(f form) int {
		n := 0
		for k := range 625 {
			m := api.Mat2{A: k%5 - 2, B: k/5%5 - 2, C: k/25%5 - 2, D: k/125 - 2}
			if m.A*m.D-m.B*m.C == 1 && image(f, m) == f {
				n++
			}
		}
		return n
	}
	r := rand.New(rand.NewSource(3))
	seen := map[int]int{}
	for a := 1; a <= 8; a++ {
		for c := a; c <= 8; c++ {
			for b := -a; b <= a; b++ {
				f := form{A: a, B: b, C: c}
				if !isReduced(f) {
					continue
				}
				want := count(f)
				seen[want]++
				for _, g := range []form{f, moved(r, f), moved(r, f)} {
					if n, e := quadform.Automorphs(g); e != api.OK || n != want {
						t.Error(g, n, want, e)
					}
				}
			}
		}
	}
	if seen[2] < 50 || seen[4] != 8 || seen[6] != 8 {
		t.Error(seen)
	}
	for f, want := range map[form]int{{A: 1, B: 0, C: 1}: 4, {A: 1, B: 1, C: 1}: 6, {A: 10000, B: 0, C: 10000}: 4, {A: 10000, B: -10000, C: 10000}: 6, {A: 1, B: 0, C: 4}: 2, {A: 5, B: 4, C: 1}: 4, {A: 7, B: 5, C: 1}: 6, {A: 1, B: 0, C: 3}: 2} {
		if n, e := quadform.Automorphs(f); e != api.OK || n != want {
			t.Error(f, n, e)
		}
	}
}

func TestClasses(t *testing.T) { // P27.2
	for _, d := range discs() {
		want := listed(d)
		l, e := quadform.Classes(d)
		if e != api.OK || !slices.Equal(l, want) {
			t.Fatal(d, l, want, e)
		}
		if n, e := quadform.Number(d); e != api.OK || n != len(want) {
			t.Fatal(d, n, e)
		}
		one, e := quadform.Identity(d)
		if e != api.OK || one != want[0] || one.A != 1 || disc(one) != d || one.B != -d%2 {
			t.Fatal(d, one, e)
		}
		x, e := quadform.Weighted(d)
		if e != api.OK {
			t.Fatal(d, e)
		}
		weight := 12 * len(want)
		switch d {
		case -3:
			weight = 4
		case -4:
			weight = 6
		}
		if twelfths(t, x) != weight {
			t.Fatal(d, x)
		}
	}
	for d, want := range map[int]int{-3: 1, -4: 1, -7: 1, -12: 1, -15: 2, -16: 1, -23: 3, -27: 1, -47: 5, -71: 7, -84: 4, -163: 1, -420: 8, -1155: 8, -3299: 27, -3315: 8, -3360: 16, -3600: 16} {
		if n, e := quadform.Number(d); e != api.OK || n != want {
			t.Error(d, n, want, e)
		}
	}
	if l, e := quadform.Classes(-23); e != api.OK || !slices.Equal(l, []form{{A: 1, B: 1, C: 6}, {A: 2, B: -1, C: 3}, {A: 2, B: 1, C: 3}}) {
		t.Error(l, e)
	}
}

func TestHurwitz(t *testing.T) { // P27.2
	h := make([]int, api.MaxDisc+1) // 12 H(n)
	for n := range h {
		x, e := quadform.Hurwitz(n)
		if e != api.OK {
			t.Fatal(n, e)
		}
		h[n] = twelfths(t, x)
		if (n%4 == 1 || n%4 == 2) && h[n] != 0 {
			t.Fatal(n, x)
		}
	}
	// The relation of Kronecker and Hurwitz.
	for n := 1; 4*n < len(h); n++ {
		left, right := 0, 0
		for x := -2 * n; x <= 2*n; x++ {
			if x*x <= 4*n {
				left += h[4*n-x*x]
			}
		}
		for a := 1; a <= n; a++ {
			if n%a == 0 {
				right += 12 * max(a, n/a)
			}
		}
		if left != right {
			t.Fatal(n, left, right)
		}
	}
	// H(n) counts all reduced forms, not only primitive ones.
	for n := 1; n <= 400; n++ {
		want := 0
		for a := 1; a*a <= n; a++ {
			for b := -a; b <= a; b++ {
				for c := a; 4*a*c-b*b <= n; c++ {
					f := form{A: a, B: b, C: c}
					switch {
					case disc(f) != -n || !isReduced(f):
					case b == a && c == a:
						want += 4
					case b == 0 && c == a:
						want += 6
					default:
						want += 12
					}
				}
			}
		}
		if h[n] != want {
			t.Error(n, h[n], want)
		}
	}
	for n, want := range map[int]int{0: -1, 1: 0, 2: 0, 3: 4, 4: 6, 7: 12, 8: 12, 11: 12, 12: 16, 16: 18, 20: 24, 23: 36, 27: 16, 28: 24} {
		if h[n] != want {
			t.Error(n, h[n], want)
		}
	}
	for _, n := range []int{-1, -3, -4000, api.MaxDisc + 1, math.MaxInt, math.MinInt} {
		if x, e := quadform.Hurwitz(n); e != api.ErrRange || len(x.Num.Mag)+len(x.Den.Mag) != 0 {
			t.Error(n, x, e)
		}
	}
}

func TestDiscErrors(t *testing.T) { // P27.2, P27.4
	for d, want := range noDiscs {
		if l, e := quadform.Classes(d); e != want || len(l) != 0 {
			t.Error("Classes", d, l, e)
		}
		if n, e := quadform.Number(d); e != want || n != 0 {
			t.Error("Number", d, n, e)
		}
		if x, e := quadform.Weighted(d); e != want || len(x.Num.Mag)+len(x.Den.Mag) != 0 {
			t.Error("Weighted", d, x, e)
		}
		if f, e := quadform.Identity(d); e != want || f != (form{}) {
			t.Error("Identity", d, f, e)
		}
		if l, e := quadform.Genera(d); e != want || len(l) != 0 {
			t.Error("Genera", d, l, e)
		}
	}
}

func TestCompose(t *testing.T) { // P27.3
	r := rand.New(rand.NewSource(4))
	compose := func(f, g form) form {
		t.Helper()
		h, e := quadform.Compose(f, g)
		if e != api.OK || h != composed(f, g) || !isReduced(h) || disc(h) != disc(f) {
			t.Fatal(f, g, h, composed(f, g), e)
		}
		return h
	}
	for _, d := range discs() {
		l := listed(d)
		if d > -600 {
			for _, f := range l {
				for _, g := range l {
					compose(f, g)
				}
			}
		}
		for range 10 {
			f, g, h := l[r.Intn(len(l))], l[r.Intn(len(l))], l[r.Intn(len(l))]
			fg := compose(f, g)
			if compose(g, f) != fg || compose(moved(r, f), moved(r, g)) != fg || compose(f, l[0]) != f {
				t.Fatal(f, g, fg)
			}
			if compose(fg, h) != compose(f, compose(g, h)) {
				t.Fatal(f, g, h)
			}
			if compose(f, form{A: f.A, B: -f.B, C: f.C}) != l[0] {
				t.Fatal(f)
			}
		}
	}
	for _, x := range [][3]form{
		{{A: 2, B: 1, C: 3}, {A: 2, B: 1, C: 3}, {A: 2, B: -1, C: 3}}, {{A: 2, B: 1, C: 3}, {A: 2, B: -1, C: 3}, {A: 1, B: 1, C: 6}}, {{A: 2, B: 2, C: 3}, {A: 2, B: 2, C: 3}, {A: 1, B: 0, C: 5}},
		{{A: 1, B: 0, C: 1}, {A: 5, B: 4, C: 1}, {A: 1, B: 0, C: 1}}, {{A: 1, B: 0, C: 1000}, {A: 8, B: 0, C: 125}, {A: 8, B: 0, C: 125}}, {{A: 7, B: 5, C: 1}, {A: 1, B: 1, C: 1}, {A: 1, B: 1, C: 1}},
	} {
		if h, e := quadform.Compose(x[0], x[1]); e != api.OK || h != x[2] {
			t.Error(x, h, e)
		}
	}
}

func TestComposeErrors(t *testing.T) { // P27.3
	fine := form{A: 2, B: 1, C: 3}
	check := func(f, g form, want api.Errno) {
		t.Helper()
		if h, e := quadform.Compose(f, g); e != want || h != (form{}) {
			t.Error("Compose", f, g, h, e, want)
		}
	}
	alone := func(f form, want api.Errno) {
		t.Helper()
		for _, n := range []int{0, 1, -1, 1001, math.MinInt} {
			if h, e := quadform.Power(f, n); e != want || h != (form{}) {
				t.Error("Power", f, n, h, e)
			}
		}
		if n, e := quadform.Order(f); e != want || n != 0 {
			t.Error("Order", f, n, e)
		}
		check(f, f, want)
		check(f, fine, want)
		check(fine, f, want)
	}
	for f, want := range wrong {
		alone(f, want)
		for g, other := range wrong {
			check(f, g, want)
			check(g, f, other)
		}
		for g := range refused {
			check(f, g, want)
			check(g, f, want)
		}
	}
	for f, want := range refused {
		alone(f, want)
		for g, other := range refused {
			// A great discriminant of either one is looked at before the divisors.
			check(f, g, min(want, other))
		}
	}
	if api.ErrRange > api.ErrForm {
		t.Fatal("min does not name the first error")
	}
	check(fine, form{A: 1, B: 0, C: 1}, api.ErrDiffer)
	check(form{A: 1, B: 0, C: 5}, form{A: 1, B: 0, C: 6}, api.ErrDiffer)
	check(form{A: 1, B: 0, C: 1000}, form{A: 1, B: 1, C: 1000}, api.ErrDiffer)
	for _, n := range []int{1001, -1001, math.MaxInt, math.MinInt} {
		if h, e := quadform.Power(fine, n); e != api.ErrRange || h != (form{}) {
			t.Error(n, h, e)
		}
	}
	for _, f := range []form{{A: 1, B: 0, C: 1000}, {A: 8, B: 0, C: 125}, {A: 1, B: 1, C: 1000}} { // -4000 and -3999
		if _, e := quadform.Compose(f, f); e != api.OK {
			t.Error(f, e)
		}
	}
}

func TestPower(t *testing.T) { // P27.3
	r := rand.New(rand.NewSource(5))
	cyclic := 0
	for _, d := range discs() {
		l := listed(d)
		for range 3 {
			f := l[r.Intn(len(l))]
			order, e := quadform.Order(moved(r, f))
			if e != api.OK || order < 1 || len(l)%order != 0 {
				t.Fatal(f, order, e)
			}
			if order == len(l) && order > 2 {
				cyclic++
			}
			power := l[0]
			limit := min(2*order+2, 60)
			for n := range limit {
				if n > 0 && (power == l[0]) != (n%order == 0) {
					t.Fatal(f, n, order, power)
				}
				inverse := reduced(form{A: power.A, B: -power.B, C: power.C})
				if h, e := quadform.Power(moved(r, f), n); e != api.OK || h != power {
					t.Fatal(f, n, h, power, e)
				}
				if h, e := quadform.Power(f, -n); e != api.OK || h != inverse {
					t.Fatal(f, -n, h, inverse, e)
				}
				power = composed(power, f)
			}
			for _, n := range []int{1000, -1000, 997} {
				h, e := quadform.Power(f, n)
				if same, _ := quadform.Power(f, n%order); e != api.OK || h != same {
					t.Fatal(f, n, h, e)
				}
			}
		}
	}
	if cyclic < 500 {
		t.Error(cyclic)
	}
	for f, want := range map[form]int{{A: 2, B: 1, C: 3}: 3, {A: 1, B: 1, C: 6}: 1, {A: 8, B: 5, C: 1}: 1, {A: 2, B: 2, C: 3}: 2, {A: 2, B: 1, C: 9}: 7, {A: 3, B: 2, C: 2}: 2} {
		if n, e := quadform.Order(f); e != api.OK || n != want {
			t.Error(f, n, e)
		}
	}
	// The class group of -3299 has 27 elements, but none of order 27.
	for _, f := range listed(-3299) {
		if n, e := quadform.Order(f); e != api.OK || n > 9 || 9%n != 0 {
			t.Error(f, n, e)
		}
	}
}
