package dimension_test

import (
	"math"
	"testing"

	"halfplane/api"
	"halfplane/dimension"
	"halfplane/signature"
)

// wantCheck follows the text of the chapter.
func wantCheck(s api.Spec, index func(n int) int) api.Errno {
	n, k, d := s.Level, s.Weight, s.Disc
	switch {
	case n < 1 || n > 120 || k < 2 || k > 24 || d < -120 || d > 120:
		return api.ErrRange
	case !isFundamental(d):
		return api.ErrDisc
	case n%d != 0:
		return api.ErrLevel
	case d > 0 && k%2 == 1 || d < 0 && k%2 == 0:
		return api.ErrParity
	case index(n)*(k-1) > 512:
		return api.ErrLarge
	}
	return api.OK
}

// checkErrors reports functions of a space that do not return the error.
func checkErrors(t *testing.T, s api.Spec, want api.Errno) {
	t.Helper()
	for i, f := range []func(api.Spec) (int, api.Errno){dimension.Cusp, dimension.Eisenstein, dimension.Modular, dimension.New, dimension.Sturm} {
		if n, e := f(s); e != want || e != api.OK && n != 0 {
			t.Fatal(i, s, n, e, want)
		}
	}
}

func TestCheck(t *testing.T) { // P31.1
	index := make([]int, api.MaxLevel+1)
	for n := 1; n <= api.MaxLevel; n++ {
		index[n] = psi(n)
	}
	count := 0
	for n := -1; n <= 122; n++ {
		for k := 0; k <= 26; k++ {
			for d := -122; d <= 122; d++ {
				s := api.Spec{Level: n, Weight: k, Disc: d}
				want := wantCheck(s, func(n int) int { return index[n] })
				if e := dimension.Check(s); e != want {
					t.Fatal(s, e, want)
				}
				if want == api.OK {
					count++
				}
				if want == api.OK || (n+k+d)%11 == 0 {
					checkErrors(t, s, want)
				}
			}
		}
	}
	if count != len(specs()) {
		t.Error(count)
	}
}

func TestCheckOrder(t *testing.T) { // P31.1
	for s, want := range map[api.Spec]api.Errno{
		{}: api.ErrRange, {Level: 1, Weight: 2}: api.ErrDisc, {Level: 1, Weight: 1, Disc: 1}: api.ErrRange, {Level: 121, Weight: 2, Disc: 1}: api.ErrRange, {Level: 120, Weight: 25, Disc: 2}: api.ErrRange, {Level: 0, Weight: 2, Disc: 2}: api.ErrRange,
		{Level: 120, Weight: 2, Disc: 121}: api.ErrRange, {Level: 120, Weight: 2, Disc: -121}: api.ErrRange, {Level: math.MaxInt, Weight: 2, Disc: 1}: api.ErrRange, {Level: math.MinInt, Weight: 2, Disc: 1}: api.ErrRange, {Level: 1, Weight: math.MaxInt, Disc: 1}: api.ErrRange, {Level: 1, Weight: math.MinInt, Disc: 1}: api.ErrRange,
		{Level: 1, Weight: 2, Disc: math.MaxInt}: api.ErrRange, {Level: 1, Weight: 2, Disc: math.MinInt}: api.ErrRange,
		{Level: 4, Weight: 2, Disc: 4}: api.ErrDisc, {Level: 5, Weight: 2, Disc: -5}: api.ErrDisc, {Level: 9, Weight: 2, Disc: 9}: api.ErrDisc, {Level: 7, Weight: 24, Disc: 2}: api.ErrDisc, {Level: 1, Weight: 3, Disc: -1}: api.ErrDisc, {Level: 16, Weight: 3, Disc: -16}: api.ErrDisc, {Level: 12, Weight: 3, Disc: -12}: api.ErrDisc,
		{Level: 4, Weight: 2, Disc: 5}: api.ErrLevel, {Level: 1, Weight: 2, Disc: -3}: api.ErrLevel, {Level: 4, Weight: 24, Disc: -8}: api.ErrLevel, {Level: 120, Weight: 23, Disc: 13}: api.ErrLevel,
		{Level: 5, Weight: 3, Disc: 5}: api.ErrParity, {Level: 3, Weight: 2, Disc: -3}: api.ErrParity, {Level: 1, Weight: 3, Disc: 1}: api.ErrParity, {Level: 120, Weight: 23, Disc: 1}: api.ErrParity, {Level: 120, Weight: 24, Disc: -120}: api.ErrParity,
		{Level: 120, Weight: 4, Disc: 1}: api.ErrLarge, {Level: 120, Weight: 3, Disc: -120}: api.ErrLarge, {Level: 22, Weight: 16, Disc: 1}: api.ErrLarge, {Level: 23, Weight: 23, Disc: -23}: api.ErrLarge,
		{Level: 120, Weight: 2, Disc: 120}: api.OK, {Level: 120, Weight: 2, Disc: 1}: api.OK, {Level: 1, Weight: 24, Disc: 1}: api.OK, {Level: 22, Weight: 14, Disc: 1}: api.OK, {Level: 23, Weight: 3, Disc: -23}: api.OK,
	} {
		if e := dimension.Check(s); e != want {
			t.Error(s, e, want)
		}
		checkErrors(t, s, want)
	}
}

func TestSturm(t *testing.T) { // P31.1
	for _, s := range specs() {
		if b, e := dimension.Sturm(s); e != api.OK || b != s.Weight*psi(s.Level)/12 {
			t.Error(s, b, e)
		}
	}
	for s, want := range map[api.Spec]int{{Level: 11, Weight: 2, Disc: 1}: 2, {Level: 1, Weight: 2, Disc: 1}: 0, {Level: 1, Weight: 12, Disc: 1}: 1, {Level: 1, Weight: 24, Disc: 1}: 2, {Level: 1, Weight: 22, Disc: 1}: 1, {Level: 23, Weight: 3, Disc: -23}: 6, {Level: 120, Weight: 2, Disc: 1}: 48} {
		if b, e := dimension.Sturm(s); e != api.OK || b != want {
			t.Error(s, b, e)
		}
	}
}

// The forms for the group on which a quadratic character is 1 are those with the trivial
// character and with this one.
func TestDimensions(t *testing.T) { // P31.2, P31.4
	groups := map[[2]int]api.Signature{}
	signatureFor := func(n, d int) api.Signature {
		g, ok := groups[[2]int{n, d}]
		if !ok {
			g = signatureOf(t, n, func(u int) bool { return d == 1 || symbol(d, u) == 1 })
			groups[[2]int{n, d}] = g
		}
		return g
	}
	for _, s := range specs() {
		cusp, e := dimension.Cusp(s)
		eis, e1 := dimension.Eisenstein(s)
		all, e2 := dimension.Modular(s)
		if e != api.OK || e1 != api.OK || e2 != api.OK || cusp+eis != all || cusp < 0 || eis < 0 {
			t.Fatal(s, cusp, eis, all, e, e1, e2)
		}
		wantCusp, wantAll := dims(t, signatureFor(s.Level, s.Disc), s.Weight)
		if s.Disc > 1 {
			c, m := dims(t, signatureFor(s.Level, 1), s.Weight)
			wantCusp, wantAll = wantCusp-c, wantAll-m
		}
		if cusp != wantCusp || all != wantAll {
			t.Error(s, cusp, all, wantCusp, wantAll)
		}
	}
}

func TestGenus(t *testing.T) { // P31.2
	for n := 1; n <= api.MaxLevel; n++ {
		genus, _ := signature.Genus0(n)
		if cusp, e := dimension.Cusp(api.Spec{Level: n, Weight: 2, Disc: 1}); e != api.OK || cusp != genus {
			t.Error(n, cusp, genus, e)
		}
	}
}

func TestKnown(t *testing.T) { // P31.2
	for s, want := range map[api.Spec][3]int{ // cusp forms, Eisenstein series, new forms
		{Level: 11, Weight: 2, Disc: 1}: {1, 1, 1}, {Level: 23, Weight: 3, Disc: -23}: {3, 2, 3}, {Level: 22, Weight: 2, Disc: 1}: {2, 3, 0}, {Level: 1, Weight: 12, Disc: 1}: {1, 1, 1}, {Level: 1, Weight: 2, Disc: 1}: {0, 0, 0}, {Level: 1, Weight: 4, Disc: 1}: {0, 1, 0}, {Level: 1, Weight: 24, Disc: 1}: {2, 1, 2},
		{Level: 23, Weight: 2, Disc: 1}: {2, 1, 2}, {Level: 33, Weight: 2, Disc: 1}: {3, 3, 1}, {Level: 37, Weight: 2, Disc: 1}: {2, 1, 2}, {Level: 44, Weight: 2, Disc: 1}: {4, 5, 1}, {Level: 88, Weight: 2, Disc: 1}: {9, 7, 3}, {Level: 29, Weight: 2, Disc: 29}: {2, 2, 2}, {Level: 7, Weight: 3, Disc: -7}: {1, 2, 1},
		{Level: 16, Weight: 3, Disc: -4}: {1, 6, 1}, {Level: 4, Weight: 5, Disc: -4}: {1, 2, 1}, {Level: 8, Weight: 3, Disc: -4}: {0, 4, 0}, {Level: 8, Weight: 3, Disc: -8}: {1, 2, 1}, {Level: 120, Weight: 2, Disc: 1}: {17, 15, 2}, {Level: 64, Weight: 2, Disc: 1}: {3, 11, 1}, {Level: 49, Weight: 2, Disc: 1}: {1, 7, 1},
	} {
		cusp, e := dimension.Cusp(s)
		eis, e1 := dimension.Eisenstein(s)
		fresh, e2 := dimension.New(s)
		all, e3 := dimension.Modular(s)
		if e != api.OK || e1 != api.OK || e2 != api.OK || e3 != api.OK || [3]int{cusp, eis, fresh} != want || all != cusp+eis {
			t.Error(s, cusp, eis, fresh, all)
		}
	}
}

// Every cusp form comes from the new forms of a level M in as many ways as N/M has divisors.
func TestNew(t *testing.T) { // P31.2
	for _, s := range specs() {
		sum := 0
		for m := 1; m <= s.Level; m++ {
			if s.Level%m != 0 || m%s.Disc != 0 {
				continue
			}
			count := 0
			for d := 1; d <= s.Level/m; d++ {
				if s.Level/m%d == 0 {
					count++
				}
			}
			fresh, e := dimension.New(api.Spec{Level: m, Weight: s.Weight, Disc: s.Disc})
			if e != api.OK || fresh < 0 {
				t.Fatal(s, m, fresh, e)
			}
			sum += count * fresh
		}
		if cusp, e := dimension.Cusp(s); e != api.OK || cusp != sum {
			t.Error(s, cusp, sum, e)
		}
	}
}

func TestLevelOne(t *testing.T) { // P31.4
	for k := 2; k <= api.MaxWeight; k += 2 {
		want := k / 12
		if k%12 != 2 {
			want++
		}
		if all, e := dimension.Modular(api.Spec{Level: 1, Weight: k, Disc: 1}); e != api.OK || all != want {
			t.Error(k, all, want, e)
		}
		g, _ := signature.Formula0(1)
		if _, all := dims(t, g, k); all != want {
			t.Error(k, all, want)
		}
	}
}
