package twist_test

import (
	"math"
	"slices"
	"testing"

	"halfplane/api"
	"halfplane/arith"
	"halfplane/dimension"
	"halfplane/newform"
	"halfplane/numfield"
	"halfplane/twist"
)

func TestCoefficient(t *testing.T) { // P50.1
	for _, s := range spaces() {
		f := forms(t, s)
		for i := range f.Count() {
			for _, n := range []int{1, 2, 3, 4, 5, 6, 7, 9, 12, 16, 31} {
				a := coefficient(t, f, i, n)
				for _, disc := range discriminants(24) {
					want := times(arith.Kronecker(disc, n), a)
					if b, e := twist.Coefficient(f, i, disc, n); e != api.OK || !same(b, want) {
						t.Errorf("Coefficient(%v, %d, %d, %d): %v, %d; want %v", s, i, disc, n, b, e, want)
					}
				}
			}
		}
	}
}

func TestTwice(t *testing.T) { // P50.2
	for _, s := range spaces() {
		f := forms(t, s)
		for i := range f.Count() {
			for _, disc := range []int{1, -3, -4, 5, 8, -7, 12, -1000 + 5, 997} {
				for n := 1; n <= 12; n++ {
					b, e := twist.Coefficient(f, i, disc, n)
					want := coefficient(t, f, i, n)
					if arith.Gcd(n, disc) != 1 {
						want = nil
					}
					if e != api.OK || !same(times(arith.Kronecker(disc, n), b), want) {
						t.Errorf("%v, orbit %d, disc %d, n = %d: the twist is %v, %d", s, i, disc, n, b, e)
					}
				}
			}
		}
	}
}

func TestMultiplicative(t *testing.T) { // P50.3
	for _, s := range spaces() {
		f := forms(t, s)
		for i := range f.Count() {
			k, _ := f.Field(i)
			for _, disc := range []int{-3, 5, -8} {
				for _, x := range [][2]int{{2, 3}, {4, 9}, {5, 8}, {7, 12}, {1, 11}, {16, 25}, {11, 13}} {
					a, e := twist.Coefficient(f, i, disc, x[0])
					b, g := twist.Coefficient(f, i, disc, x[1])
					c, h := twist.Coefficient(f, i, disc, x[0]*x[1])
					if product, _ := numfield.Mul(k, a, b); e != api.OK || g != api.OK || h != api.OK || !same(product, c) {
						t.Errorf("%v, orbit %d, disc %d: %v times %v is not %v", s, i, disc, a, b, c)
					}
				}
			}
		}
	}
}

func TestConjugate(t *testing.T) { // P50.4
	for _, s := range spaces() {
		f := forms(t, s)
		for i := range f.Count() {
			k, _ := f.Field(i)
			for n := 1; n <= 30; n++ {
				if arith.Gcd(n, s.Level) != 1 {
					continue
				}
				b, e := twist.Coefficient(f, i, s.Disc, n)
				if e != api.OK {
					t.Fatal(s, i, n, e)
				}
				x, _ := numfield.CharPoly(k, coefficient(t, f, i, n))
				if y, _ := numfield.CharPoly(k, b); !same(api.Elem(x), api.Elem(y)) {
					t.Errorf("%v, orbit %d: a_%d and its conjugate have the polynomials %v and %v", s, i, n, x, y)
				}
			}
		}
	}
}

func TestLevel(t *testing.T) { // P50.1
	for _, s := range append(spaces(), spec(120, 2, 60), spec(24, 11, -24), spec(119, 2, 1), spec(119, 3, -7), spec(113, 2, 113)) {
		for _, disc := range discriminants(api.MaxTwist) {
			n, e := twist.Level(s, disc)
			want := multiple(multiple(s.Level, disc*s.Disc), disc*disc)
			if e != api.OK || n != want {
				t.Errorf("Level(%v, %d): %d, %d; want %d", s, disc, n, e, want)
			}
		}
	}
	if n, e := twist.Level(spec(11, 2, 1), -3); n != 99 || e != api.OK {
		t.Errorf("Level of level 11 and -3: %d, %d", n, e)
	}
	for _, s := range []api.Spec{{}, spec(11, 2, 5), spec(11, 3, 1), spec(121, 2, 1), spec(120, 4, 1)} {
		for _, disc := range []int{1, 0, 2, 5000} {
			n, e := twist.Level(s, disc)
			expectError(t, "Level", n, e, dimension.Check(s))
		}
	}
	for _, disc := range wrong() {
		n, e := twist.Level(spec(11, 2, 1), disc)
		expectError(t, "Level", n, e, api.ErrDisc)
	}
}

// multiple returns the least common multiple.
func multiple(a, b int) int {
	n := a / arith.Gcd(a, b) * b
	return max(n, -n)
}

// wrong returns numbers that are no discriminants of twists.
func wrong() []int {
	l := []int{math.MinInt, -1<<31 - 3, -1003, -1007, 1001, 1004, 1005, 1 << 32, math.MaxInt}
	for disc := -api.MaxTwist; disc <= api.MaxTwist; disc++ {
		if !isDisc(disc) {
			l = append(l, disc)
		}
	}
	return l
}

func TestSelf(t *testing.T) { // P50.1
	count := map[bool]int{}
	for _, s := range spaces() {
		f := forms(t, s)
		for i := range f.Count() {
			for _, disc := range discriminants(24) {
				for _, most := range []int{0, 1, 2, 5, 40} {
					got, e := twist.Self(f, i, disc, most)
					want := isCM(t, f, i, disc, most)
					if e != api.OK || got != want {
						t.Errorf("Self(%v, %d, %d, %d): %v, %d; want %v", s, i, disc, most, got, e, want)
					}
					if most == 40 && disc != 1 {
						count[want]++
					}
				}
			}
		}
	}
	if count[true] < 10 || count[false] < 100 {
		t.Error(count)
	}
}

func TestMultiplications(t *testing.T) { // P50.1
	for _, s := range spaces() {
		f := forms(t, s)
		for i := range f.Count() {
			for _, most := range []int{0, 2, 5, api.MaxHecke} {
				var want []int
				for _, disc := range discriminants(s.Level) {
					if disc == 1 || s.Level%disc != 0 {
						continue
					}
					if self, _ := twist.Self(f, i, disc, most); self {
						want = append(want, disc)
					}
				}
				if got, e := twist.Multiplications(f, i, most); e != api.OK || !slices.Equal(got, want) {
					t.Errorf("Multiplications(%v, %d, %d): %v, %d; want %v", s, i, most, got, e, want)
				}
			}
		}
	}
	// The forms with complex multiplication of these levels.
	for _, x := range []struct {
		s    api.Spec
		want []int
	}{
		{spec(27, 2, 1), []int{-3}}, {spec(32, 2, 1), []int{-4}}, {spec(36, 2, 1), []int{-3}}, {spec(49, 2, 1), []int{-7}}, {spec(64, 2, 1), []int{-4}}, {spec(7, 3, -7), []int{-7}}, {spec(8, 3, -8), []int{-8}}, {spec(4, 5, -4), []int{-4}}, {spec(11, 2, 1), nil}, {spec(1, 12, 1), nil},
	} {
		if got, e := twist.Multiplications(forms(t, x.s), 0, api.MaxHecke); e != api.OK || !slices.Equal(got, x.want) {
			t.Errorf("Multiplications(%v): %v, %d; want %v", x.s, got, e, x.want)
		}
	}
	// a_2 = 0 and a_3 is not 0, so that all characters are left that are not -1 at 3.
	if got, e := twist.Multiplications(forms(t, spec(24, 2, 1)), 0, 4); e != api.OK || !slices.Equal(got, []int{-24, -8, -3, 12, 24}) {
		t.Errorf("Multiplications of level 24: %v, %d", got, e)
	}
}

func TestMatch(t *testing.T) { // P50.1, P50.2
	var rational []*newform.Forms
	for _, s := range []api.Spec{
		spec(11, 2, 1), spec(15, 2, 1), spec(24, 2, 1), spec(27, 2, 1), spec(37, 2, 1), spec(45, 2, 1), spec(48, 2, 1), spec(50, 2, 1), spec(1, 12, 1), spec(7, 3, -7), spec(15, 3, -15), spec(16, 4, 1),
	} {
		rational = append(rational, forms(t, s))
	}
	count := map[bool]int{}
	for _, f := range rational {
		for _, g := range rational {
			for i := range f.Count() {
				for j := range g.Count() {
					if !isRational(f, i) || !isRational(g, j) {
						continue
					}
					for _, disc := range []int{1, -3, -4, 5, -7} {
						got, e := twist.Match(f, i, disc, g, j, 20)
						want := doMatch(t, f, i, disc, g, j, 20)
						count[want]++
						if e != api.OK || got != want {
							t.Errorf("Match(%v, %d, %d, %v, %d): %v, %d; want %v", f.Spec(), i, disc, g.Spec(), j, got, e, want)
						}
						if back, e := twist.Match(g, j, disc, f, i, 20); e != api.OK || back != got {
							t.Errorf("Match(%v, %d, %d, %v, %d) is not symmetric", f.Spec(), i, disc, g.Spec(), j)
						}
					}
				}
			}
		}
	}
	if count[true] < 30 || count[false] < 500 {
		t.Error(count)
	}
}

func TestKnownTwists(t *testing.T) { // P50.1
	for _, x := range []struct{ level, disc, twisted int }{{11, -3, 99}, {15, -3, 45}, {24, -4, 48}, {50, 5, 50}, {21, -3, 63}, {20, -4, 80}} {
		f, g := forms(t, spec(x.level, 2, 1)), forms(t, spec(x.twisted, 2, 1))
		found := 0
		for j := range g.Count() {
			if !isRational(g, j) {
				continue
			}
			if ok, e := twist.Match(f, 0, x.disc, g, j, api.MaxHecke); e != api.OK {
				t.Error(x, e)
			} else if ok {
				found++
			}
		}
		if found != 1 {
			t.Errorf("the twist of level %d by %d was found %d times in level %d", x.level, x.disc, found, x.twisted)
		}
	}
	// The first coefficient that differs decides; that of 1 agrees always.
	f, g := forms(t, spec(11, 2, 1)), forms(t, spec(14, 2, 1))
	for most, want := range map[int]bool{0: true, 1: true, 2: true, 3: false, api.MaxHecke: false} {
		if ok, e := twist.Match(f, 0, 1, g, 0, most); e != api.OK || ok != want {
			t.Errorf("Match of level 11 and 14 up to %d: %v, %d", most, ok, e)
		}
	}
}

func TestErrors(t *testing.T) { // P50.1: the order of the errors
	f, g := forms(t, spec(11, 2, 1)), forms(t, spec(23, 2, 1))
	for _, disc := range append(wrong(), 1, -3) {
		for _, x := range []struct {
			f    *newform.Forms
			i, n int
			want api.Errno
		}{
			{nil, 0, 1, api.ErrNil}, {nil, -1, 0, api.ErrNil}, {f, 1, 1, api.ErrRange}, {f, -1, 131, api.ErrRange}, {f, 0, 0, api.ErrRange}, {f, 0, 1001, api.ErrRange}, {f, 0, 131, api.ErrLarge}, {new(newform.Forms), 0, 1, api.ErrRange},
		} {
			a, e := twist.Coefficient(x.f, x.i, disc, x.n)
			expectError(t, "Coefficient", a, e, x.want)
		}
		for _, most := range []int{-1, 0, 5, 129} {
			ok, e := twist.Self(nil, 0, disc, most)
			expectError(t, "Self", ok, e, api.ErrNil)
			ok, e = twist.Self(f, 1, disc, most)
			expectError(t, "Self", ok, e, api.ErrRange)
			ok, e = twist.Self(f, -1, disc, most)
			expectError(t, "Self", ok, e, api.ErrRange)
			checkMatch(t, nil, 5, disc, f, 5, most, api.ErrNil)
			checkMatch(t, f, 5, disc, nil, 5, most, api.ErrNil)
			checkMatch(t, f, 1, disc, g, 0, most, api.ErrRange)
			checkMatch(t, f, -1, disc, g, 0, most, api.ErrRange)
			checkMatch(t, g, 0, disc, f, 1, most, api.ErrRange)
			checkMatch(t, g, 0, disc, f, -1, most, api.ErrRange)
			checkMatch(t, f, 0, disc, g, 0, most, api.ErrKind)
			checkMatch(t, g, 0, disc, f, 0, most, api.ErrKind)
		}
	}
	for _, disc := range wrong() {
		a, e := twist.Coefficient(f, 0, disc, 2)
		expectError(t, "Coefficient", a, e, api.ErrDisc)
		for _, most := range []int{-1, 0, 5, 129} {
			ok, e := twist.Self(f, 0, disc, most)
			expectError(t, "Self", ok, e, api.ErrDisc)
			checkMatch(t, f, 0, disc, f, 0, most, api.ErrDisc)
		}
	}
	for _, most := range []int{math.MinInt, -1, 129, math.MaxInt} {
		ok, e := twist.Self(f, 0, -3, most)
		expectError(t, "Self", ok, e, api.ErrRange)
		checkMatch(t, f, 0, -3, f, 0, most, api.ErrRange)
		l, e := twist.Multiplications(f, 0, most)
		expectError(t, "Multiplications", l, e, api.ErrRange)
		l, e = twist.Multiplications(nil, 0, most)
		expectError(t, "Multiplications", l, e, api.ErrNil)
	}
	for _, i := range []int{math.MinInt, -1, 1, math.MaxInt} {
		l, e := twist.Multiplications(f, i, 5)
		expectError(t, "Multiplications", l, e, api.ErrRange)
	}
	l, e := twist.Multiplications(nil, -1, 5)
	expectError(t, "Multiplications", l, e, api.ErrNil)
}

// checkMatch checks an error of Match.
func checkMatch(t *testing.T, f *newform.Forms, i, disc int, g *newform.Forms, j, most int, want api.Errno) {
	t.Helper()
	ok, e := twist.Match(f, i, disc, g, j, most)
	expectError(t, "Match", ok, e, want)
}

func TestExamples(t *testing.T) { // P50.1
	if l, e := twist.Multiplications(forms(t, spec(27, 2, 1)), 0, 13); e != api.OK || !slices.Equal(l, []int{-3}) {
		t.Errorf("level 27: %v, %d", l, e)
	}
	f := forms(t, spec(11, 2, 1))
	if l, e := twist.Multiplications(f, 0, 2); e != api.OK || len(l) != 0 {
		t.Errorf("level 11: %v, %d", l, e)
	}
	for disc, most := range map[int]int{-3: 2, -4: 3, -11: 2} {
		if ok, e := twist.Self(f, 0, disc, most); e != api.OK || ok {
			t.Errorf("Self by %d: %v, %d", disc, ok, e)
		}
	}
}

func TestMemory(t *testing.T) { // R3, R4
	f := forms(t, spec(23, 2, 1))
	a, _ := twist.Coefficient(f, 0, -4, 3)
	b, _ := twist.Coefficient(f, 0, -4, 3)
	for _, x := range a {
		for _, mag := range [][]uint32{x.Num.Mag, x.Den.Mag} {
			for k := range mag[:cap(mag)] {
				mag[:cap(mag)][k] = 77
			}
		}
	}
	if c, _ := twist.Coefficient(f, 0, -4, 3); len(b) != 2 || !same(b, c) {
		t.Errorf("the result is kept: %v, %v", b, c)
	}
}
