package bernoulli_test

import (
	"math"
	"math/big"
	"slices"
	"testing"

	"halfplane/api"
	"halfplane/bernoulli"
	"halfplane/dirichlet"
	"halfplane/quadform"
)

// quadratic returns the Bernoulli number of the quadratic character of d.
func quadratic(t *testing.T, k, d int) *big.Rat {
	t.Helper()
	b, e := bernoulli.Quadratic(k, d)
	if e != api.OK {
		t.Fatal(k, d, e)
	}
	return toRat(t, b)
}

func TestCharacter(t *testing.T) { // P30.3
	for m := 1; m <= api.MaxModulus; m++ {
		l, _ := dirichlet.All(m)
		for _, x := range l {
			n, _ := dirichlet.Order(x)
			f, _ := dirichlet.Conductor(x)
			even, _ := dirichlet.Even(x)
			kept := slices.Clone(x.Exps)
			if phi(n) > api.MaxField {
				if a, order, e := bernoulli.Character(3, x); e != api.ErrLarge || len(a) != 0 || order != 0 {
					t.Fatal(x, a, order, e)
				}
				continue
			}
			last := 4
			if m%20 == 1 {
				last = 40
			}
			want := series(t, x, last, n)
			for k := 1; k <= last; k++ {
				a, order, e := bernoulli.Character(k, x)
				if e != api.OK || order != n {
					t.Fatal(k, x, order, e)
				}
				reduced := want[k].reduced()
				if len(a) != len(reduced) {
					t.Fatal(k, x, a, reduced)
				}
				for i, c := range a {
					if toRat(t, c).Cmp(reduced[i]) != 0 {
						t.Fatal(k, x, i, c, reduced)
					}
				}
				if even != (k%2 == 0) && (k > 1 || f > 1) && len(a) != 0 {
					t.Fatal(k, x, a)
				}
			}
			if !slices.Equal(x.Exps, kept) {
				t.Fatal("the argument was changed")
			}
		}
	}
}

func TestQuadratic(t *testing.T) { // P30.3
	count := 0
	for d := -api.MaxModulus; d <= api.MaxModulus; d++ {
		x, e := dirichlet.Quadratic(d)
		if e != api.OK {
			for _, k := range []int{1, 2, 40} {
				if b, f := bernoulli.Quadratic(k, d); f != e || !isNone(b) {
					t.Error(k, d, b, f)
				}
			}
			continue
		}
		count++
		order, _ := dirichlet.Order(x)
		want := series(t, x, 40, order)
		for k := 1; k <= 40; k++ {
			b := quadratic(t, k, d)
			a, n, e := bernoulli.Character(k, x)
			if e != api.OK || n != order {
				t.Fatal(k, d, n, e)
			}
			sum := new(big.Rat)
			for _, c := range want[k].reduced() {
				sum.Set(c)
			}
			if b.Cmp(sum) != 0 || len(a) > 1 || len(a) == 0 && b.Sign() != 0 || len(a) == 1 && b.Cmp(toRat(t, a[0])) != 0 {
				t.Fatal(k, d, b, a, sum)
			}
			if (d > 0) != (k%2 == 0) && (k > 1 || d != 1) && b.Sign() != 0 {
				t.Error(k, d, b)
			}
			if d == 1 && k > 1 && b.Cmp(bernoulliOf(k)) != 0 {
				t.Error(k, b)
			}
		}
	}
	if count != 40 {
		t.Error(count)
	}
}

// Dirichlet's formula: B_(1, x) is minus the class number, divided by half of the number of
// automorphs.
func TestClassNumbers(t *testing.T) { // P30.3
	for d := -3; d >= -api.MaxModulus; d-- {
		if _, e := dirichlet.Quadratic(d); e != api.OK {
			continue
		}
		h, e := quadform.Weighted(d)
		if b := quadratic(t, 1, d); e != api.OK || b.Neg(b).Cmp(toRat(t, h)) != 0 {
			t.Error(d, b, h, e)
		}
	}
}

func TestKnown(t *testing.T) { // P30.3
	for _, c := range []struct {
		k, d int
		want string
	}{
		{1, 1, "1/2"}, {2, 1, "1/6"}, {1, -4, "-1/2"}, {1, -3, "-1/3"}, {1, -23, "-3"}, {2, 5, "4/5"}, {2, 8, "2"}, {2, 12, "4"}, {3, -4, "3/2"}, {3, -3, "2/3"}, {5, -4, "-25/2"}, {2, -4, "0"}, {1, 5, "0"}, {12, 1, "-691/2730"}, {1, -59, "-3"}, {1, -47, "-5"},
	} {
		if b := quadratic(t, c.k, c.d); b.RatString() != c.want {
			t.Error(c, b)
		}
	}
	// For the modulus 5 and the value i at 2: (1 + 2 i - 3 i - 4)/5.
	a, n, e := bernoulli.Character(1, api.Character{Modulus: 5, Exps: []int{1}})
	if e != api.OK || n != 4 || len(a) != 2 || toRat(t, a[0]).RatString() != "-3/5" || toRat(t, a[1]).RatString() != "-1/5" {
		t.Error(a, n, e)
	}
	// The primitive character counts, also of the trivial one with another modulus.
	a, n, e = bernoulli.Character(1, api.Character{Modulus: 30, Exps: []int{0, 0}})
	if e != api.OK || n != 1 || len(a) != 1 || toRat(t, a[0]).RatString() != "1/2" {
		t.Error(a, n, e)
	}
	a, n, e = bernoulli.Character(1, api.Character{Modulus: 12, Exps: []int{1, 0}})
	if e != api.OK || n != 2 || len(a) != 1 || toRat(t, a[0]).RatString() != "-1/2" {
		t.Error(a, n, e)
	}
}

func TestErrors(t *testing.T) { // P30.3
	large := api.Character{Modulus: 17, Exps: []int{1}} // of order 16, with phi(16) = 8
	if _, n, e := bernoulli.Character(1, large); e != api.OK || n != 16 {
		t.Error(n, e)
	}
	large = api.Character{Modulus: 53, Exps: []int{1}} // of order 52, with phi(52) = 24
	for _, c := range []struct {
		k    int
		x    api.Character
		want api.Errno
	}{
		{0, large, api.ErrRange}, {41, large, api.ErrRange}, {-1, api.Character{Modulus: 5}, api.ErrRange}, {math.MaxInt, api.Character{}, api.ErrRange}, {math.MinInt, api.Character{}, api.ErrRange},
		{1, api.Character{}, api.ErrRange}, {1, api.Character{Modulus: 61, Exps: []int{1}}, api.ErrRange}, {1, api.Character{Modulus: 5}, api.ErrShape}, {40, api.Character{Modulus: 53, Exps: []int{1, 1}}, api.ErrShape}, {1, api.Character{Modulus: 5, Exps: []int{4}}, api.ErrForm}, {1, api.Character{Modulus: 53, Exps: []int{-1}}, api.ErrForm}, {1, large, api.ErrLarge}, {40, large, api.ErrLarge},
	} {
		if a, n, e := bernoulli.Character(c.k, c.x); e != c.want || len(a) != 0 || n != 0 {
			t.Error(c, a, n, e)
		}
	}
	for _, c := range []struct {
		k, d int
		want api.Errno
	}{
		{0, 0, api.ErrRange}, {0, 2, api.ErrRange}, {41, 2, api.ErrRange}, {41, 5, api.ErrRange}, {-1, 5, api.ErrRange}, {math.MaxInt, 5, api.ErrRange}, {math.MinInt, 5, api.ErrRange}, {1, 0, api.ErrRange}, {1, 61, api.ErrRange}, {1, -61, api.ErrRange}, {1, math.MaxInt, api.ErrRange}, {1, math.MinInt, api.ErrRange},
		{1, 2, api.ErrDisc}, {1, -1, api.ErrDisc}, {1, 4, api.ErrDisc}, {1, -12, api.ErrDisc}, {40, 45, api.ErrDisc},
	} {
		if b, e := bernoulli.Quadratic(c.k, c.d); e != c.want || !isNone(b) {
			t.Error(c, b, e)
		}
	}
}
