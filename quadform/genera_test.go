package quadform_test

import (
	"math"
	"math/rand"
	"slices"
	"testing"

	"halfplane/api"
	"halfplane/quadform"
)

// genusCount follows the formula for the number of genera.
func genusCount(d int) int {
	r := 0
	for p, rest := 3, -d; p <= rest; p += 2 {
		if rest%p == 0 {
			r++
		}
		for rest%p == 0 {
			rest /= p
		}
	}
	if d%2 != 0 {
		return 1 << (r - 1)
	}
	switch n := -d / 4; {
	case n%4 == 3:
		return 1 << (r - 1)
	case n%8 == 0:
		return 1 << (r + 1)
	}
	return 1 << r
}

func TestGenera(t *testing.T) { // P27.4
	for _, d := range discs() {
		all := listed(d)
		l, e := quadform.Genera(d)
		if e != api.OK || len(l) != genusCount(d) {
			t.Fatal(d, l, genusCount(d), e)
		}
		var forms []form
		for i, genus := range l {
			if len(genus)*len(l) != len(all) || !slices.IsSortedFunc(genus, before) || i > 0 && before(l[i-1][0], genus[0]) >= 0 {
				t.Fatal(d, l)
			}
			for _, f := range genus {
				// The quotient of two forms of a genus is a square, one of the first genus.
				if h := composed(f, form{A: genus[0].A, B: -genus[0].B, C: genus[0].C}); !slices.Contains(l[0], h) {
					t.Fatal(d, f, genus[0], h)
				}
			}
			forms = append(forms, genus...)
		}
		for _, f := range all {
			if !slices.Contains(l[0], composed(f, f)) {
				t.Fatal(d, f)
			}
		}
		slices.SortFunc(forms, before)
		if !slices.Equal(forms, all) {
			t.Fatal(d, l)
		}
	}
}

func before(f, g form) int {
	return slices.Compare([]int{f.A, f.B, f.C}, []int{g.A, g.B, g.C})
}

func TestGenusValues(t *testing.T) { // P27.4
	// Forms are in one genus if and only if they represent the same units modulo d.
	for _, d := range discs() {
		if d < -200 {
			break
		}
		units := func(f form) string {
			seen := make([]byte, -d)
			for x := range -d {
				for y := range -d {
					if n := value(f, x, y) % -d; gcd(n, d) == 1 {
						seen[n] = 1
					}
				}
			}
			return string(seen)
		}
		l, _ := quadform.Genera(d)
		genera := map[string]bool{}
		for _, genus := range l {
			values := units(genus[0])
			if genera[values] {
				t.Fatal(d, genus)
			}
			genera[values] = true
			for _, f := range genus {
				if units(f) != values {
					t.Fatal(d, f)
				}
			}
		}
	}
}

func TestKnownGenera(t *testing.T) { // P27.4
	for d, want := range map[int][][]form{
		-3: {{{A: 1, B: 1, C: 1}}}, -20: {{{A: 1, B: 0, C: 5}}, {{A: 2, B: 2, C: 3}}}, -23: {listed(-23)}, -32: {{{A: 1, B: 0, C: 8}}, {{A: 3, B: 2, C: 3}}},
		-56: {{{A: 1, B: 0, C: 14}, {A: 2, B: 0, C: 7}}, {{A: 3, B: -2, C: 5}, {A: 3, B: 2, C: 5}}},
	} {
		if l, e := quadform.Genera(d); e != api.OK || !slices.EqualFunc(l, want, slices.Equal) {
			t.Error(d, l, e)
		}
	}
}

func TestRepresent(t *testing.T) { // P27.5
	r := rand.New(rand.NewSource(6))
	for k := range 200 {
		f := randomForm(r)
		if k%2 == 0 {
			l := listed(-3 - 4*r.Intn(100))
			f = l[r.Intn(len(l))]
		}
		small := reduced(f)
		// A vector of a reduced form with a value of n has entries of at most the square
		// root of 4/3 n.
		var count [301]int
		for x := -20; x <= 20; x++ {
			for y := -20; y <= 20; y++ {
				if n := value(small, x, y); n < len(count) {
					count[n]++
				}
			}
		}
		for n, want := range count {
			for _, g := range []form{f, moved(r, f)} {
				if got, e := quadform.Represent(g, n); e != api.OK || got != want {
					t.Fatal(g, n, got, want, e)
				}
			}
		}
	}
	// Jacobi's theorem on sums of two squares, and that on x^2 + x y + y^2.
	for n := 1; n <= api.MaxDisc; n++ {
		two, three := 0, 0
		for a := 1; a <= n; a++ {
			if n%a == 0 {
				two += []int{0, 1, 0, -1}[a%4]
				three += []int{0, 1, -1}[a%3]
			}
		}
		if got, e := quadform.Represent(form{A: 1, B: 0, C: 1}, n); e != api.OK || got != 4*two {
			t.Fatal(n, got, e)
		}
		if got, e := quadform.Represent(form{A: 1, B: 1, C: 1}, n); e != api.OK || got != 6*three {
			t.Fatal(n, got, e)
		}
	}
	for _, x := range []struct {
		f       form
		n, want int
	}{{form{A: 1, B: 0, C: 1}, 5, 8}, {form{A: 1, B: 0, C: 1}, 0, 1}, {form{A: 10000, B: 10000, C: 10000}, 0, 1}, {form{A: 10000, B: 10000, C: 10000}, 4000, 0}, {form{A: 4000, B: 0, C: 4000}, 4000, 4}, {form{A: 4000, B: -4000, C: 4000}, 4000, 6}, {form{A: 1, B: 0, C: 4000}, 4000, 2}, {form{A: 10000, B: 9999, C: 2500}, 2, 2}} {
		if got, e := quadform.Represent(x.f, x.n); e != api.OK || got != x.want {
			t.Error(x, got, e)
		}
	}
	for _, n := range []int{-1, api.MaxDisc + 1, math.MaxInt, math.MinInt} {
		if got, e := quadform.Represent(form{A: 1, B: 0, C: 1}, n); e != api.ErrRange || got != 0 {
			t.Error(n, got, e)
		}
	}
}

func TestProducts(t *testing.T) { // P27.5
	r := rand.New(rand.NewSource(7))
	products := 0
	for range 4000 {
		l := listed([]int{-23, -20, -47, -56, -87, -104, -231, -3 - 8*r.Intn(20)}[r.Intn(8)])
		f, g := l[r.Intn(len(l))], l[r.Intn(len(l))]
		a, b := value(f, r.Intn(9)-4, r.Intn(9)-4), value(g, r.Intn(9)-4, r.Intn(9)-4)
		if a*b > api.MaxDisc {
			continue
		}
		products++
		h, _ := quadform.Compose(f, g)
		if n, e := quadform.Represent(h, a*b); e != api.OK || n == 0 {
			t.Fatal(f, g, h, a, b, n, e)
		}
	}
	if products < 1000 {
		t.Error(products)
	}
}

// Nothing of a result is used again by a later call, nor by another part of the result.
func TestMemory(t *testing.T) { // R3
	l, _ := quadform.Classes(-71)
	kept := slices.Clone(l)
	clear(l[:cap(l)])
	if again, _ := quadform.Classes(-71); !slices.Equal(again, kept) {
		t.Error(again)
	}
	genera, _ := quadform.Genera(-56)
	second := slices.Clone(genera[1])
	clear(genera[0][:cap(genera[0])])
	if !slices.Equal(genera[1], second) {
		t.Error("the genera share memory")
	}
	if again, _ := quadform.Genera(-56); len(again) != 2 || len(again[0]) != 2 || again[0][0] != (form{A: 1, B: 0, C: 14}) {
		t.Error(again)
	}
	x, _ := quadform.Hurwitz(23)
	clear(x.Num.Mag[:cap(x.Num.Mag)])
	if again, _ := quadform.Hurwitz(23); twelfths(t, again) != 36 {
		t.Error(again)
	}
}
