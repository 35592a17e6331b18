package dimension_test

import (
	"math"
	"testing"

	"halfplane/api"
	"halfplane/dimension"
	"halfplane/signature"
	"halfplane/subgroup"
)

func TestSignatureOfGamma0(t *testing.T) { // P31.4
	for _, s := range specs() {
		if s.Disc != 1 {
			continue
		}
		g, _ := signature.Formula0(s.Level)
		cusp, all := dims(t, g, s.Weight)
		wantCusp, _ := dimension.Cusp(s)
		wantAll, _ := dimension.Modular(s)
		if cusp != wantCusp || all != wantAll {
			t.Error(s, cusp, all, wantCusp, wantAll)
		}
	}
}

// The rings of these groups are known: the dimension of all forms of weight k.
func TestRings(t *testing.T) { // P31.4
	for group, want := range map[api.Group]func(k int) int{
		{Kind: api.GammaFull, Level: 2}: func(k int) int { return k/2 + 1 },
		{Kind: api.GammaFull, Level: 3}: func(k int) int { return k + 1 },
		{Kind: api.GammaFull, Level: 4}: func(k int) int { return 2*k + 1 },
		{Kind: api.GammaFull, Level: 5}: func(k int) int { return 5*k + 1 },
		{Kind: api.Gamma1, Level: 2}:    func(k int) int { return k/4 + 1 },
		{Kind: api.Gamma1, Level: 3}:    func(k int) int { return k/3 + 1 },
		{Kind: api.Gamma1, Level: 4}:    func(k int) int { return k/2 + 1 },
		{Kind: api.Gamma1, Level: 5}:    func(k int) int { return k + 1 },
		{Kind: api.Gamma1, Level: 6}:    func(k int) int { return k + 1 },
	} {
		a, _ := subgroup.Of(group)
		g, e := signature.Of(a)
		if e != api.OK {
			t.Fatal(group, e)
		}
		for k := 2; k <= api.MaxWeight; k++ {
			if k%2 == 1 && g.Minus {
				continue
			}
			if cusp, all := dims(t, g, k); all != want(k) || cusp < 0 || cusp > all {
				t.Error(group, k, cusp, all, want(k))
			}
		}
	}
}

// The forms for the group of the commutators are powers of eta^2 below the 12th, times
// forms of level one. Its cusp is irregular.
func TestCommutators(t *testing.T) { // P31.4
	g := api.Signature{Index: 6, Genus: 1, Cusps: 1, Irregular: 1}
	levelOne := func(k int) int {
		switch {
		case k < 0 || k%2 == 1:
			return 0
		case k%12 == 2:
			return k / 12
		}
		return k/12 + 1
	}
	for k := 2; k <= api.MaxWeight; k++ {
		wantAll, wantCusp := 0, 0
		for j := range 12 {
			wantAll += levelOne(k - j)
			if j > 0 {
				wantCusp += levelOne(k - j)
			} else if k >= 12 {
				wantCusp += levelOne(k - 12)
			}
		}
		if cusp, all := dims(t, g, k); cusp != wantCusp || all != wantAll {
			t.Error(k, cusp, all, wantCusp, wantAll)
		}
	}
}

func TestKnownSignatures(t *testing.T) { // P31.4
	for _, c := range []struct {
		g            api.Signature
		k, cusp, all int
	}{
		{api.Signature{Index: 6, Cusps: 3, Irregular: 1}, 3, 0, 2},
		{api.Signature{Index: 6, Cusps: 3, Irregular: 1}, 2, 0, 2},
		{api.Signature{Index: 6, Cusps: 3, Irregular: 1}, 5, 1, 3},
		{api.Signature{Index: 84, Genus: 2, Cusps: 12}, 2, 2, 13},
		{api.Signature{Index: 84, Genus: 2, Cusps: 12}, 3, 8, 20},
		{api.Signature{Index: 12, Genus: 1, Cusps: 2, Minus: true}, 2, 1, 2},
		{api.Signature{Index: 12, Genus: 1, Cusps: 2, Minus: true}, 4, 2, 4},
		{api.Signature{Index: 1, Nu2: 1, Nu3: 1, Cusps: 1, Minus: true}, 12, 1, 2},
		{api.Signature{Index: 2, Nu3: 2, Cusps: 1, Minus: true}, 6, 1, 2},
		// These belong to no group, but follow the rules.
		{api.Signature{Nu3: 3, Minus: true}, 2, 0, -1},
		{api.Signature{Nu3: 3, Minus: true}, 4, 0, 0},
		{api.Signature{Genus: 1}, 24, 0, 0},
	} {
		if cusp, all := dims(t, c.g, c.k); cusp != c.cusp || all != c.all {
			t.Error(c, cusp, all)
		}
	}
}

func checkSignatureError(t *testing.T, g api.Signature, k int, want api.Errno) {
	t.Helper()
	if n, e := dimension.CuspSignature(g, k); e != want || n != 0 {
		t.Error("CuspSignature", g, k, n, e, want)
	}
	if n, e := dimension.ModularSignature(g, k); e != want || n != 0 {
		t.Error("ModularSignature", g, k, n, e, want)
	}
}

func TestSignatureErrors(t *testing.T) { // P31.4
	fine := api.Signature{Index: 12, Genus: 1, Cusps: 2, Minus: true}
	for _, k := range []int{1, 0, -2, 25, 26, math.MaxInt, math.MinInt} {
		checkSignatureError(t, fine, k, api.ErrRange)
		checkSignatureError(t, api.Signature{}, k, api.ErrRange)
		checkSignatureError(t, api.Signature{Index: -1}, k, api.ErrRange)
	}
	for _, g := range []api.Signature{
		{}, {Index: 12, Genus: 2, Cusps: 2, Minus: true}, {Index: 11, Genus: 1, Cusps: 2, Minus: true}, {Index: 12, Genus: 1, Nu2: 1, Cusps: 2, Minus: true}, {Index: 12, Genus: 1, Nu3: 1, Cusps: 2, Minus: true}, {Index: 12, Genus: 1, Cusps: 3, Minus: true},
		// A number is negative.
		{Index: -12, Minus: true}, {Index: 12, Genus: -1, Cusps: 6, Minus: true}, {Index: 9, Genus: 1, Nu2: -1, Cusps: 2, Minus: true}, {Index: 8, Genus: 1, Nu3: -1, Cusps: 2, Minus: true}, {Index: 12, Genus: 3, Cusps: -2, Minus: true}, {Index: 12, Genus: 1, Cusps: 2, Irregular: -2}, {Index: math.MinInt, Cusps: math.MinInt},
		// A number is greater than 10000.
		{Index: 10008, Genus: 834, Cusps: 2, Minus: true}, {Index: 10001, Genus: 1, Nu2: 1, Nu3: 0, Cusps: 1666, Minus: true}, {Index: math.MaxInt, Genus: math.MaxInt, Minus: true}, {Index: 12, Genus: 1, Cusps: math.MaxInt, Irregular: math.MaxInt},
		// Irregular cusps that may not be.
		{Index: 6, Cusps: 3, Irregular: 5}, {Index: 12, Genus: 1, Cusps: 2, Irregular: 2, Minus: true}, {Index: 6, Cusps: 3, Irregular: 1, Minus: true}, {Index: 6, Cusps: 3, Irregular: 0}, {Index: 6, Cusps: 3, Irregular: 2}, {Index: 12, Genus: 1, Cusps: 2, Irregular: 1},
		// Points of order 2 without -1.
		{Index: 3, Nu2: 1, Cusps: 2}, {Index: 6, Nu2: 2, Cusps: 2},
	} {
		for _, k := range []int{2, 3, 24} {
			checkSignatureError(t, g, k, api.ErrForm)
		}
	}
	for k := 3; k <= api.MaxWeight; k += 2 {
		checkSignatureError(t, fine, k, api.ErrParity)
		checkSignatureError(t, api.Signature{Index: 1, Nu2: 1, Nu3: 1, Cusps: 1, Minus: true}, k, api.ErrParity)
		if _, all := dims(t, api.Signature{Index: 12, Genus: 1, Cusps: 2}, k); all < 2 {
			t.Error(k, all)
		}
	}
	// The greatest numbers: 12 * 793 = 12 + 10000 - 4 * 124.
	great := api.Signature{Index: 10000, Genus: 793, Nu3: 124}
	if cusp, all := dims(t, great, 24); cusp != 23*792+8*124 || all != cusp {
		t.Error(cusp, all)
	}
	if cusp, all := dims(t, great, 23); cusp != 22*792+7*124 || all != cusp {
		t.Error(cusp, all)
	}
}
