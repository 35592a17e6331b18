package dimension_test

import (
	"math"
	"slices"
	"testing"

	"halfplane/api"
	"halfplane/dimension"
	"halfplane/dirichlet"
	"halfplane/signature"
)

// The forms for Gamma1(n) are those for all characters modulo n.
func TestSumOfCharacters(t *testing.T) { // P31.3, P31.4
	for n := 1; n <= api.MaxModulus; n++ {
		g, _ := signature.Formula1(n)
		l := characters(t, n)
		for k := 2; k <= api.MaxWeight; k++ {
			if k%2 == 1 && g.Minus {
				continue
			}
			wantCusp, wantAll := dims(t, g, k)
			for _, x := range l {
				if fits(k, x) {
					cusp, all := dimsOf(t, k, x)
					if cusp < 0 || all < cusp {
						t.Fatal(x, k, cusp, all)
					}
					wantCusp -= cusp
					wantAll -= all
				}
			}
			if wantCusp != 0 || wantAll != 0 {
				t.Error(n, k, wantCusp, wantAll)
			}
		}
	}
}

// powers returns the powers of a character, the trivial one first.
func powers(t *testing.T, x api.Character) []api.Character {
	t.Helper()
	order, _ := dirichlet.Order(x)
	l := []api.Character{{Modulus: x.Modulus, Exps: make([]int, len(x.Exps))}}
	for len(l) < order {
		y, e := dirichlet.Mul(x, l[len(l)-1])
		if e != api.OK {
			t.Fatal(x, e)
		}
		l = append(l, y)
	}
	return l
}

// The forms for the group on which a character is 1 are those for its powers. The
// dimensions are the same for powers of the same order.
func TestPowersOfCharacter(t *testing.T) { // P31.3, P31.4
	compared := 0
	for n := 1; n <= api.MaxModulus; n++ {
		for _, x := range characters(t, n) {
			order, _ := dirichlet.Order(x)
			if order < 3 && n > 30 || psi(n)*order > 400 {
				continue
			}
			compared++
			g := signatureOf(t, n, func(u int) bool {
				v, _ := dirichlet.Value(x, u)
				return v == (api.RootOfUnity{Den: 1})
			})
			l := powers(t, x)
			for _, k := range []int{2, 3, 4, 5, 6, 7, 9, 12, 23, 24} {
				if k%2 == 1 && g.Minus {
					continue
				}
				wantCusp, wantAll := dims(t, g, k)
				for _, y := range l {
					if fits(k, y) {
						cusp, all := dimsOf(t, k, y)
						wantCusp -= cusp
						wantAll -= all
					}
				}
				if wantCusp != 0 || wantAll != 0 {
					t.Fatal(x, k, wantCusp, wantAll)
				}
			}
			compareConjugates(t, l)
		}
	}
	if compared < 300 {
		t.Error(compared)
	}
}

// compareConjugates checks that powers of the same order have the same dimensions.
func compareConjugates(t *testing.T, l []api.Character) {
	t.Helper()
	for i := 2; i < len(l); i++ {
		j := gcd(i, len(l))
		k := 2
		if !fits(k, l[i]) {
			k = 3
		}
		c1, m1 := dimsOf(t, k, l[i])
		c2, m2 := dimsOf(t, k, l[j])
		if c1 != c2 || m1 != m2 {
			t.Fatal(l[i], l[j], c1, m1, c2, m2)
		}
	}
}

func TestQuadraticCharacters(t *testing.T) { // P31.3
	for _, s := range specs() {
		if s.Level > api.MaxModulus {
			continue
		}
		x, e := dirichlet.Quadratic(s.Disc)
		if e != api.OK {
			t.Fatal(s, e)
		}
		x, _ = dirichlet.Extend(x, s.Level)
		cusp, all := dimsOf(t, s.Weight, x)
		wantCusp, _ := dimension.Cusp(s)
		wantAll, _ := dimension.Modular(s)
		if cusp != wantCusp || all != wantAll {
			t.Error(s, cusp, all, wantCusp, wantAll)
		}
	}
}

// There are weights and levels that are too great for a space.
func TestTrivialCharacters(t *testing.T) { // P31.3
	for n := 1; n <= api.MaxModulus; n++ {
		g, _ := signature.Formula0(n)
		x := characters(t, n)[0]
		for k := 2; k <= api.MaxWeight; k += 2 {
			wantCusp, wantAll := dims(t, g, k)
			if cusp, all := dimsOf(t, k, x); cusp != wantCusp || all != wantAll {
				t.Error(n, k, cusp, all, wantCusp, wantAll)
			}
		}
	}
}

func TestKnownCharacters(t *testing.T) { // P31.3
	for _, c := range []struct {
		x         api.Character
		k         int
		cusp, all int
	}{
		{api.Character{Modulus: 13, Exps: []int{2}}, 2, 1, 3}, {api.Character{Modulus: 13, Exps: []int{10}}, 2, 1, 3}, {api.Character{Modulus: 13, Exps: []int{4}}, 2, 0, 2}, {api.Character{Modulus: 13, Exps: []int{6}}, 2, 0, 2}, {api.Character{Modulus: 13, Exps: []int{0}}, 2, 0, 1},
		{api.Character{Modulus: 16, Exps: []int{0, 1}}, 2, 1, 3}, {api.Character{Modulus: 18, Exps: []int{2}}, 2, 1, 5}, {api.Character{Modulus: 5, Exps: []int{1}}, 3, 0, 2}, {api.Character{Modulus: 7, Exps: []int{3}}, 3, 1, 3},
		{api.Character{Modulus: 9, Exps: []int{2}}, 4, 2, 4}, {api.Character{Modulus: 9, Exps: []int{1}}, 3, 1, 3}, {api.Character{Modulus: 3, Exps: []int{1}}, 3, 0, 2}, {api.Character{Modulus: 1}, 12, 1, 2}, {api.Character{Modulus: 2}, 8, 1, 3},
	} {
		if cusp, all := dimsOf(t, c.k, c.x); cusp != c.cusp || all != c.all {
			t.Error(c, cusp, all)
		}
	}
}

func TestCharacterErrors(t *testing.T) { // P31.3
	odd, even := api.Character{Modulus: 5, Exps: []int{1}}, api.Character{Modulus: 5, Exps: []int{2}}
	for _, c := range []struct {
		k    int
		x    api.Character
		want api.Errno
	}{
		{1, even, api.ErrRange}, {0, even, api.ErrRange}, {25, odd, api.ErrRange}, {math.MaxInt, odd, api.ErrRange}, {math.MinInt, odd, api.ErrRange}, {1, api.Character{}, api.ErrRange}, {-3, api.Character{Modulus: 5}, api.ErrRange},
		{2, api.Character{}, api.ErrRange}, {2, api.Character{Modulus: 61, Exps: []int{0}}, api.ErrRange}, {2, api.Character{Modulus: 5}, api.ErrShape}, {3, api.Character{Modulus: 5, Exps: []int{1, 1}}, api.ErrShape}, {3, api.Character{Modulus: 5, Exps: []int{4}}, api.ErrForm}, {2, api.Character{Modulus: 5, Exps: []int{-1}}, api.ErrForm},
		{2, odd, api.ErrParity}, {24, odd, api.ErrParity}, {3, even, api.ErrParity}, {23, api.Character{Modulus: 1}, api.ErrParity}, {3, api.Character{Modulus: 2}, api.ErrParity}, {2, api.Character{Modulus: 4, Exps: []int{1}}, api.ErrParity},
	} {
		kept := slices.Clone(c.x.Exps)
		if n, e := dimension.CuspCharacter(c.k, c.x); e != c.want || n != 0 {
			t.Error("CuspCharacter", c, n, e)
		}
		if n, e := dimension.ModularCharacter(c.k, c.x); e != c.want || n != 0 {
			t.Error("ModularCharacter", c, n, e)
		}
		if !slices.Equal(kept, c.x.Exps) {
			t.Error("the argument was changed")
		}
	}
}
