package dirichlet_test

import (
	"math"
	"slices"
	"testing"

	"halfplane/api"
	"halfplane/dirichlet"
)

func TestGenerators(t *testing.T) { // P28.1
	for n := 1; n <= api.MaxModulus; n++ {
		values, orders := generators(n)
		l, m, e := dirichlet.Generators(n)
		if e != api.OK || !slices.Equal(l, values) || !slices.Equal(m, orders) {
			t.Error(n, l, m, values, orders, e)
		}
		// Each unit is exactly one product.
		products := []int{1 % n}
		for i, g := range l {
			if g < 0 || g >= n || order(g, n) != m[i] {
				t.Fatal(n, g)
			}
			var next []int
			for _, a := range products {
				for range m[i] {
					next = append(next, a)
					a = a * g % n
				}
			}
			products = next
		}
		slices.Sort(products)
		if len(slices.Compact(products)) != phi(n) || len(products) != phi(n) {
			t.Error(n, products)
		}
	}
	for n, want := range map[int][2][]int{1: {}, 2: {}, 3: {{2}, {2}}, 4: {{3}, {2}}, 6: {{5}, {2}}, 8: {{7, 5}, {2, 2}}, 15: {{11, 7}, {2, 4}}, 16: {{15, 5}, {2, 4}}, 49: {{3}, {42}}, 41: {{6}, {40}}, 24: {{7, 13, 17}, {2, 2, 2}}, 60: {{31, 41, 37}, {2, 2, 4}}} {
		if l, m, e := dirichlet.Generators(n); e != api.OK || !slices.Equal(l, want[0]) || !slices.Equal(m, want[1]) {
			t.Error(n, l, m, e)
		}
	}
	for _, n := range noModuli {
		if l, m, e := dirichlet.Generators(n); e != api.ErrRange || len(l)+len(m) != 0 {
			t.Error(n, l, m, e)
		}
	}
}

func TestAll(t *testing.T) { // P28.1
	for n := 1; n <= api.MaxModulus; n++ {
		_, orders := generators(n)
		l := all(t, n)
		if len(l) != phi(n) {
			t.Fatal(n, l)
		}
		for i, x := range l {
			if e := dirichlet.Check(x); e != api.OK || x.Modulus != n || len(x.Exps) != len(orders) {
				t.Fatal(n, x, e)
			}
			if i > 0 && slices.Compare(l[i-1].Exps, x.Exps) >= 0 {
				t.Fatal(n, l)
			}
			for k, m := range orders {
				if x.Exps[k] < 0 || x.Exps[k] >= m {
					t.Fatal(n, x)
				}
			}
		}
	}
	if l := all(t, 15); len(l) != 8 || !slices.Equal(l[1].Exps, []int{0, 1}) || !slices.Equal(l[4].Exps, []int{1, 0}) {
		t.Error(l)
	}
	for _, n := range noModuli {
		if l, e := dirichlet.All(n); e != api.ErrRange || len(l) != 0 {
			t.Error(n, l, e)
		}
	}
}

func TestErrors(t *testing.T) { // P28.1, P28.2, P28.3
	fine := api.Character{Modulus: 5, Exps: []int{1}}
	for _, c := range malformed {
		if e := dirichlet.Check(c.x); e != c.want {
			t.Error("Check", c, e)
		}
		for _, a := range []int{1, 0, api.MaxEntry + 1} {
			if v, e := dirichlet.Value(c.x, a); e != c.want || v != (api.RootOfUnity{}) {
				t.Error("Value", c, v, e)
			}
		}
		if n, e := dirichlet.Order(c.x); e != c.want || n != 0 {
			t.Error("Order", c, n, e)
		}
		if n, e := dirichlet.Conductor(c.x); e != c.want || n != 0 {
			t.Error("Conductor", c, n, e)
		}
		if even, e := dirichlet.Even(c.x); e != c.want || even {
			t.Error("Even", c, even, e)
		}
		checkProductErrors(t, c.x, fine, c.want)
		checkProductErrors(t, fine, c.x, c.want)
		for _, d := range malformed {
			checkProductErrors(t, c.x, d.x, c.want)
		}
		if y, e := dirichlet.Conjugate(c.x); e != c.want || !isNone(y) {
			t.Error("Conjugate", c, y, e)
		}
		for _, n := range []int{0, 5, 61, 7} {
			if y, e := dirichlet.Extend(c.x, n); e != c.want || !isNone(y) {
				t.Error("Extend", c, y, e)
			}
		}
		if y, e := dirichlet.Primitive(c.x); e != c.want || !isNone(y) {
			t.Error("Primitive", c, y, e)
		}
	}
	checkProductErrors(t, fine, api.Character{Modulus: 7, Exps: []int{1}}, api.ErrDiffer)
	checkProductErrors(t, api.Character{Modulus: 1}, api.Character{Modulus: 2}, api.ErrDiffer)
	checkProductErrors(t, fine, api.Character{Modulus: 10, Exps: []int{1}}, api.ErrDiffer)
	for _, a := range []int{api.MaxEntry + 1, -api.MaxEntry - 1, math.MaxInt, math.MinInt} {
		if v, e := dirichlet.Value(fine, a); e != api.ErrRange || v != (api.RootOfUnity{}) {
			t.Error(a, v, e)
		}
	}
}

func checkProductErrors(t *testing.T, x, y api.Character, want api.Errno) {
	t.Helper()
	if z, e := dirichlet.Mul(x, y); e != want || !isNone(z) {
		t.Error("Mul", x, y, z, e)
	}
}

func TestValue(t *testing.T) { // P28.2
	for n := 1; n <= api.MaxModulus; n++ {
		for _, x := range all(t, n) {
			kept := clone(x)
			l := angles(x)
			value := func(a int) api.RootOfUnity {
				v, e := dirichlet.Value(x, a)
				if e != api.OK {
					t.Fatal(x, a, e)
				}
				return v
			}
			for a, angle := range l {
				if (angle < 0) != (gcd(a, n) != 1) {
					t.Fatal(x, a)
				}
				for _, b := range []int{a, a + n, a - 7*n} {
					if v := value(b); v != rootOf(angle) {
						t.Fatal(x, b, v, angle)
					}
				}
				for b := a % 7; b < n; b += 7 {
					if rootOf(times(angle, l[b])) != value(a*b) {
						t.Fatal(x, a, b)
					}
				}
			}
			for _, a := range []int{api.MaxEntry, -api.MaxEntry, api.MaxEntry - 1} {
				if v := value(a); v != rootOf(l[(a%n+n)%n]) {
					t.Fatal(x, a, v)
				}
			}
			if !same(x, kept) {
				t.Fatal("the argument was changed")
			}
		}
	}
	one := api.RootOfUnity{Den: 1}
	for _, a := range []int{0, 1, -1, 12, api.MaxEntry} {
		if v, e := dirichlet.Value(api.Character{Modulus: 1}, a); e != api.OK || v != one {
			t.Error(a, v, e)
		}
	}
	for _, c := range []struct {
		x    api.Character
		a    int
		want api.RootOfUnity
	}{
		{api.Character{Modulus: 15, Exps: []int{1, 1}}, 14, one}, {api.Character{Modulus: 15, Exps: []int{1, 1}}, 7, api.RootOfUnity{Num: 1, Den: 4}}, {api.Character{Modulus: 15, Exps: []int{1, 1}}, 11, api.RootOfUnity{Num: 1, Den: 2}}, {api.Character{Modulus: 15, Exps: []int{1, 1}}, 3, api.RootOfUnity{Zero: true}},
		{api.Character{Modulus: 2}, 0, api.RootOfUnity{Zero: true}}, {api.Character{Modulus: 2}, 1, one}, {api.Character{Modulus: 7, Exps: []int{2}}, 3, api.RootOfUnity{Num: 1, Den: 3}}, {api.Character{Modulus: 7, Exps: []int{5}}, -4, api.RootOfUnity{Num: 5, Den: 6}},
	} {
		if v, e := dirichlet.Value(c.x, c.a); e != api.OK || v != c.want {
			t.Error(c, v, e)
		}
	}
}

func TestUnits(t *testing.T) { // P28.2
	// Of the characters, the part 1/k has the value 1 at a unit of order k.
	for n := 1; n <= api.MaxModulus; n++ {
		l := all(t, n)
		for a := range n {
			if gcd(a, n) != 1 {
				continue
			}
			ones := 0
			for _, x := range l {
				if v, _ := dirichlet.Value(x, a); v == (api.RootOfUnity{Den: 1}) {
					ones++
				}
			}
			if ones*order(a, n) != len(l) {
				t.Error(n, a, ones)
			}
		}
	}
}

func TestOrder(t *testing.T) { // P28.2
	for n := 1; n <= api.MaxModulus; n++ {
		for _, x := range all(t, n) {
			l := angles(x)
			least := 1
			for slices.ContainsFunc(l, func(angle int) bool { return angle > 0 && angle*least%scale != 0 }) {
				least++
			}
			if k, e := dirichlet.Order(x); e != api.OK || k != least {
				t.Fatal(x, k, least, e)
			}
			if f, e := dirichlet.Conductor(x); e != api.OK || f != conductor(x) {
				t.Fatal(x, f, conductor(x), e)
			}
			if even, e := dirichlet.Even(x); e != api.OK || even != (l[n-1] == 0) {
				t.Fatal(x, even, e)
			}
		}
	}
	for _, c := range []struct {
		x                api.Character
		order, conductor int
		even             bool
	}{
		{api.Character{Modulus: 1}, 1, 1, true}, {api.Character{Modulus: 2}, 1, 1, true}, {api.Character{Modulus: 15, Exps: []int{1, 1}}, 4, 15, true}, {api.Character{Modulus: 15, Exps: []int{1, 0}}, 2, 3, false}, {api.Character{Modulus: 15, Exps: []int{0, 0}}, 1, 1, true},
		{api.Character{Modulus: 8, Exps: []int{1, 0}}, 2, 4, false}, {api.Character{Modulus: 8, Exps: []int{0, 1}}, 2, 8, true}, {api.Character{Modulus: 27, Exps: []int{9}}, 2, 3, false}, {api.Character{Modulus: 27, Exps: []int{6}}, 3, 9, true}, {api.Character{Modulus: 27, Exps: []int{1}}, 18, 27, false},
		{api.Character{Modulus: 48, Exps: []int{0, 2, 1}}, 2, 24, false}, {api.Character{Modulus: 6, Exps: []int{1}}, 2, 3, false},
	} {
		k, e := dirichlet.Order(c.x)
		f, e1 := dirichlet.Conductor(c.x)
		even, e2 := dirichlet.Even(c.x)
		if e != api.OK || e1 != api.OK || e2 != api.OK || k != c.order || f != c.conductor || even != c.even {
			t.Error(c, k, f, even)
		}
	}
}
