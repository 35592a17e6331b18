package gausssum_test

import (
	"math"
	"slices"
	"testing"

	"halfplane/api"
	"halfplane/cyclotomic"
	"halfplane/dirichlet"
	"halfplane/gausssum"
)

// gauss returns the Gauss sum of a character that has one, and the number of its field.
func gauss(t *testing.T, x api.Character) (api.Elem, int) {
	t.Helper()
	a, n, e := gausssum.Gauss(x)
	if e != api.OK {
		t.Fatal(x, e)
	}
	return a, n
}

func TestGauss(t *testing.T) { // P29.1
	fields := 0
	for _, x := range all(t) {
		kept := clone(x)
		m := x.Modulus
		n := lcm(m, orderOf(x))
		field, e := gausssum.Field(x)
		a, number, f := gausssum.Gauss(x)
		if phi(n) > api.MaxField {
			if e != api.ErrLarge || f != api.ErrLarge || field != 0 || number != 0 || len(a) != 0 {
				t.Fatal(x, field, e, a, number, f)
			}
			continue
		}
		fields++
		if e != api.OK || f != api.OK || field != n || number != n {
			t.Fatal(x, field, e, number, f)
		}
		checkElement(t, n, a, func(power int) complex128 {
			var sum complex128
			for b := range m {
				sum += at(t, x, b, power) * root(m, b*power)
			}
			return sum
		})
		if !same(x, kept) {
			t.Fatal("the argument was changed")
		}
	}
	if fields < 100 {
		t.Error(fields)
	}
}

func TestJacobi(t *testing.T) { // P29.1
	pairs, refused := 0, 0
	for m := 1; m <= api.MaxModulus; m++ {
		l, _ := dirichlet.All(m)
		for i, x := range l {
			for j, y := range l {
				if m > 24 && (i+j)%5 != 0 {
					continue
				}
				n := lcm(lcm(m, orderOf(x)), orderOf(y))
				a, field, e := gausssum.Jacobi(x, y)
				if phi(n) > api.MaxField {
					refused++
					if e != api.ErrLarge || len(a) != 0 || field != 0 {
						t.Fatal(x, y, a, field, e)
					}
					continue
				}
				pairs++
				if e != api.OK || field != n {
					t.Fatal(x, y, field, e)
				}
				checkElement(t, n, a, func(power int) complex128 {
					var sum complex128
					for b := range m {
						sum += at(t, x, b, power) * at(t, y, 1-b, power)
					}
					return sum
				})
			}
		}
	}
	if pairs < 500 || refused < 500 {
		t.Error(pairs, refused)
	}
}

func TestExamples(t *testing.T) { // P29.1
	for _, c := range []struct {
		x    api.Character
		want api.Elem
		n    int
	}{
		{api.Character{Modulus: 3, Exps: []int{1}}, elem(-1, 2), 6}, {api.Character{Modulus: 1}, elem(1), 1}, {api.Character{Modulus: 2}, elem(-1), 2}, {api.Character{Modulus: 4, Exps: []int{1}}, elem(0, 2), 4}, {api.Character{Modulus: 4, Exps: []int{0}}, elem(), 4}, {api.Character{Modulus: 3, Exps: []int{0}}, elem(-1), 3}, {api.Character{Modulus: 6, Exps: []int{0}}, elem(1), 6},
		// The square root of 5 is 1 + 2 zeta_5 + 2 zeta_5^4, and zeta_5^4 is -zeta_10^3.
		{api.Character{Modulus: 5, Exps: []int{2}}, elem(1, 0, 2, -2), 10},
	} {
		a, n := gauss(t, c.x)
		if n != c.n || !equal(a, c.want) {
			t.Error(c, a, n)
		}
	}
	five := api.Character{Modulus: 5, Exps: []int{2}}
	if a, n, e := gausssum.Jacobi(five, five); e != api.OK || n != 10 || !equal(a, elem(-1)) {
		t.Error(a, n, e)
	}
	one := api.Character{Modulus: 1}
	if a, n, e := gausssum.Jacobi(one, one); e != api.OK || n != 1 || !equal(a, elem(1)) {
		t.Error(a, n, e)
	}
	two := api.Character{Modulus: 2}
	if a, n, e := gausssum.Jacobi(two, two); e != api.OK || n != 2 || len(a) != 0 {
		t.Error(a, n, e)
	}
}

func TestErrors(t *testing.T) { // P29.1
	large, fine := api.Character{Modulus: 17, Exps: []int{1}}, api.Character{Modulus: 5, Exps: []int{1}}
	for _, c := range malformed {
		checkErrors(t, c.x, c.want)
		for _, y := range []api.Character{fine, large, {Modulus: 7, Exps: []int{1}}} {
			checkJacobiError(t, c.x, y, c.want)
			checkJacobiError(t, y, c.x, c.want)
		}
		for _, d := range malformed {
			checkJacobiError(t, c.x, d.x, c.want)
		}
	}
	checkErrors(t, large, api.ErrLarge)
	checkErrors(t, api.Character{Modulus: 59, Exps: []int{0}}, api.ErrLarge)
	checkErrors(t, api.Character{Modulus: 11, Exps: []int{1}}, api.ErrLarge)
	checkJacobiError(t, large, fine, api.ErrDiffer)
	checkJacobiError(t, fine, large, api.ErrDiffer)
	checkJacobiError(t, api.Character{Modulus: 1}, api.Character{Modulus: 2}, api.ErrDiffer)
	checkJacobiError(t, large, large, api.ErrLarge)
	// One of them alone has a field, and both do, but not together.
	checkJacobiError(t, api.Character{Modulus: 9, Exps: []int{1}}, api.Character{Modulus: 9, Exps: []int{0}}, api.OK)
	checkJacobiError(t, api.Character{Modulus: 11, Exps: []int{0}}, api.Character{Modulus: 11, Exps: []int{1}}, api.ErrLarge)
	checkJacobiError(t, api.Character{Modulus: 11, Exps: []int{1}}, api.Character{Modulus: 11, Exps: []int{0}}, api.ErrLarge)
	checkJacobiError(t, api.Character{Modulus: 13, Exps: []int{6}}, api.Character{Modulus: 13, Exps: []int{4}}, api.ErrLarge)
}

func checkErrors(t *testing.T, x api.Character, want api.Errno) {
	t.Helper()
	if n, e := gausssum.Field(x); e != want || n != 0 {
		t.Error("Field", x, n, e, want)
	}
	if a, n, e := gausssum.Gauss(x); e != want || n != 0 || len(a) != 0 {
		t.Error("Gauss", x, a, n, e, want)
	}
}

func checkJacobiError(t *testing.T, x, y api.Character, want api.Errno) {
	t.Helper()
	if a, n, e := gausssum.Jacobi(x, y); e != want || e != api.OK && (n != 0 || len(a) != 0) {
		t.Error("Jacobi", x, y, a, n, e, want)
	}
}

func TestElement(t *testing.T) { // P29.1
	for n := 1; n <= api.MaxCyclo; n++ {
		if phi(n) > api.MaxField {
			for _, r := range []api.RootOfUnity{{Den: 1}, {Zero: true}, {}, {Num: 1, Den: 7}} {
				if a, e := gausssum.Element(n, r); e != api.ErrLarge || len(a) != 0 {
					t.Fatal(n, r, a, e)
				}
			}
			continue
		}
		if a, e := gausssum.Element(n, api.RootOfUnity{Zero: true}); e != api.OK || len(a) != 0 {
			t.Fatal(n, a, e)
		}
		for den := 1; den <= 2*n+1; den++ {
			for num := range den {
				if gcd(num, den) != 1 {
					continue
				}
				a, e := gausssum.Element(n, api.RootOfUnity{Num: num, Den: den})
				if n%den != 0 {
					if e != api.ErrMember || len(a) != 0 {
						t.Fatal(n, num, den, a, e)
					}
					continue
				}
				if e != api.OK {
					t.Fatal(n, num, den, e)
				}
				checkElement(t, n, a, func(power int) complex128 { return root(den, num*power) })
			}
		}
	}
}

func TestElementErrors(t *testing.T) { // P29.1
	none := api.RootOfUnity{}
	for _, n := range []int{0, -1, -12, api.MaxCyclo + 1, math.MaxInt, math.MinInt} {
		for _, r := range []api.RootOfUnity{none, {Den: 1}, {Num: 1, Den: 5}} {
			if a, e := gausssum.Element(n, r); e != api.ErrRange || len(a) != 0 {
				t.Error(n, r, a, e)
			}
		}
	}
	for r, want := range map[api.RootOfUnity]api.Errno{
		none: api.ErrForm, {Zero: true, Den: 1}: api.ErrForm, {Zero: true, Num: 1}: api.ErrForm, {Zero: true, Num: 1, Den: 2}: api.ErrForm, {Den: 2}: api.ErrForm, {Num: 2, Den: 4}: api.ErrForm, {Num: 1, Den: 1}: api.ErrForm, {Num: 5, Den: 4}: api.ErrForm, {Num: -1, Den: 4}: api.ErrForm, {Num: 1, Den: -4}: api.ErrForm, {Num: -1, Den: -4}: api.ErrForm, {Num: 2, Den: 10}: api.ErrForm, {Num: 0, Den: 5}: api.ErrForm, {Num: 1, Den: 0}: api.ErrForm,
		{Num: math.MinInt, Den: math.MaxInt}: api.ErrForm, {Num: math.MinInt, Den: math.MinInt}: api.ErrForm, {Num: math.MaxInt, Den: math.MinInt}: api.ErrForm, {Num: math.MaxInt, Den: math.MaxInt}: api.ErrForm,
		{Num: math.MaxInt - 1, Den: math.MaxInt}: api.ErrMember, {Num: 1, Den: 5}: api.ErrMember, {Num: 1, Den: 24}: api.ErrMember, {Num: 5, Den: 8}: api.ErrMember,
		{Zero: true}: api.OK, {Den: 1}: api.OK, {Num: 11, Den: 12}: api.OK, {Num: 2, Den: 3}: api.OK,
	} {
		if a, e := gausssum.Element(12, r); e != want || e != api.OK && len(a) != 0 {
			t.Error(r, a, e, want)
		}
	}
}

func TestAbsoluteValue(t *testing.T) { // P29.2
	count := 0
	for _, x := range all(t) {
		if !isPrimitive(x) || !known(x) {
			continue
		}
		count++
		m := x.Modulus
		a, n := gauss(t, x)
		bar, _ := cyclotomic.Conjugate(n, a)
		if !equal(product(t, n, a, bar), elem(m)) {
			t.Error(x, a)
		}
		b, other := gauss(t, conjugate(x))
		sign := -m
		if even, _ := dirichlet.Even(x); even {
			sign = m
		}
		if other != n || !equal(product(t, n, a, b), elem(sign)) {
			t.Error(x, a, b, sign)
		}
	}
	if count < 40 {
		t.Error(count)
	}
}

func TestAutomorphisms(t *testing.T) { // P29.3
	count := 0
	for _, x := range all(t) {
		if !known(x) {
			continue
		}
		a, n := gauss(t, x)
		for power := 1; power < 2*n; power++ {
			if gcd(power, n) != 1 || (power-1)%orderOf(x) != 0 {
				continue
			}
			count++
			image, e := cyclotomic.Galois(n, power, a)
			if e != api.OK {
				t.Fatal(n, power, e)
			}
			v, _ := dirichlet.Value(conjugate(x), power)
			factor, e := gausssum.Element(n, v)
			if e != api.OK || !equal(image, product(t, n, a, factor)) {
				t.Error(x, power, image, factor, e)
			}
		}
	}
	if count < 500 {
		t.Error(count)
	}
}

func TestProducts(t *testing.T) { // P29.4
	count := 0
	for m := 1; m <= api.MaxModulus; m++ {
		l, _ := dirichlet.All(m)
		for _, x := range l {
			for _, y := range l {
				z, _ := dirichlet.Mul(x, y)
				n := lcm(lcm(m, orderOf(x)), orderOf(y))
				if !isPrimitive(z) || phi(n) > api.MaxField {
					continue
				}
				count++
				j, field, e := gausssum.Jacobi(x, y)
				if e != api.OK || field != n {
					t.Fatal(x, y, field, e)
				}
				a, p := gauss(t, x)
				b, q := gauss(t, y)
				c, r := gauss(t, z)
				left := product(t, n, j, lift(t, r, n, c))
				if right := product(t, n, lift(t, p, n, a), lift(t, q, n, b)); !equal(left, right) {
					t.Error(x, y, left, right)
				}
			}
		}
	}
	if count < 200 {
		t.Error(count)
	}
}

func TestQuadratic(t *testing.T) { // P29.5
	count := 0
	for d := -api.MaxModulus; d <= api.MaxModulus; d++ {
		x, e := dirichlet.Quadratic(d)
		if e != api.OK || d == 1 || !known(x) {
			continue
		}
		count++
		a, n := gauss(t, x)
		if !equal(product(t, n, a, a), elem(d)) {
			t.Error(d, a)
		}
	}
	if count < 15 {
		t.Error(count)
	}
}

// Nothing of a result is used again by a later call, nor by another part of the result.
func TestMemory(t *testing.T) { // R3
	for _, x := range []api.Character{{Modulus: 13, Exps: []int{6}}, {Modulus: 5, Exps: []int{1}}, {Modulus: 7, Exps: []int{0}}} {
		a, n := gauss(t, x)
		kept, _ := gauss(t, x)
		checkMemory(t, a)
		if again, _ := gauss(t, x); !equal(again, kept) {
			t.Error(x, again)
		}
		j, _, _ := gausssum.Jacobi(x, x)
		checkMemory(t, j)
		r, _ := gausssum.Element(n, api.RootOfUnity{Num: n - 1, Den: n})
		checkMemory(t, r)
		if again, e := gausssum.Element(n, api.RootOfUnity{Num: n - 1, Den: n}); e != api.OK || len(again) != len(r) {
			t.Error(n, again, e)
		}
	}
}

// checkMemory reports numbers of an element that share memory.
func checkMemory(t *testing.T, a api.Elem) {
	t.Helper()
	var l [][]uint32
	for _, c := range a {
		l = append(l, c.Num.Mag, c.Den.Mag)
	}
	for i, x := range l {
		var kept [][]uint32
		for _, y := range l[i+1:] {
			kept = append(kept, slices.Clone(y))
		}
		for k := range x[:cap(x)] {
			x[:cap(x)][k] = 77
		}
		for k, y := range l[i+1:] {
			if !slices.Equal(y, kept[k]) {
				t.Fatal("shared memory", i, i+1+k)
			}
		}
	}
}
