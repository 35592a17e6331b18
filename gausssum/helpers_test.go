package gausssum_test

import (
	"math"
	"math/cmplx"
	"slices"
	"testing"

	"halfplane/api"
	"halfplane/bigint"
	"halfplane/cyclotomic"
	"halfplane/dirichlet"
	"halfplane/numfield"
	"halfplane/rational"
)

// malformed are values that are no characters, with the error of dirichlet.Check.
var malformed = []struct {
	x    api.Character
	want api.Errno
}{
	{api.Character{}, api.ErrRange}, {api.Character{Modulus: -5, Exps: []int{1}}, api.ErrRange}, {api.Character{Modulus: 61, Exps: []int{0}}, api.ErrRange}, {api.Character{Modulus: math.MaxInt}, api.ErrRange}, {api.Character{Modulus: math.MinInt, Exps: []int{-1}}, api.ErrRange},
	{api.Character{Modulus: 5}, api.ErrShape}, {api.Character{Modulus: 59}, api.ErrShape}, {api.Character{Modulus: 1, Exps: []int{0}}, api.ErrShape}, {api.Character{Modulus: 8, Exps: []int{-1}}, api.ErrShape},
	{api.Character{Modulus: 5, Exps: []int{4}}, api.ErrForm}, {api.Character{Modulus: 59, Exps: []int{-1}}, api.ErrForm}, {api.Character{Modulus: 8, Exps: []int{1, 2}}, api.ErrForm}, {api.Character{Modulus: 3, Exps: []int{math.MinInt}}, api.ErrForm}, {api.Character{Modulus: 3, Exps: []int{math.MaxInt}}, api.ErrForm},
}

// gcd is Euclid's algorithm, for comparison.
func gcd(a, b int) int {
	for b != 0 {
		a, b = b, a%b
	}
	return max(a, -a)
}

func lcm(a, b int) int {
	return a / gcd(a, b) * b
}

// phi counts the units modulo n.
func phi(n int) int {
	count := 0
	for a := range n {
		if gcd(a, n) == 1 {
			count++
		}
	}
	return count
}

// all returns the characters with all moduli.
func all(t *testing.T) []api.Character {
	t.Helper()
	var l []api.Character
	for m := 1; m <= api.MaxModulus; m++ {
		list, e := dirichlet.All(m)
		if e != api.OK {
			t.Fatal(m, e)
		}
		l = append(l, list...)
	}
	return l
}

func orderOf(x api.Character) int {
	n, _ := dirichlet.Order(x)
	return n
}

// known reports whether there is a field for a character.
func known(x api.Character) bool {
	return phi(lcm(x.Modulus, orderOf(x))) <= api.MaxField
}

// isPrimitive reports whether the conductor of a character is its modulus.
func isPrimitive(x api.Character) bool {
	f, _ := dirichlet.Conductor(x)
	return f == x.Modulus
}

func conjugate(x api.Character) api.Character {
	y, _ := dirichlet.Conjugate(x)
	return y
}

func clone(x api.Character) api.Character {
	return api.Character{Modulus: x.Modulus, Exps: slices.Clone(x.Exps)}
}

func same(x, y api.Character) bool {
	return x.Modulus == y.Modulus && slices.Equal(x.Exps, y.Exps)
}

// root returns exp(2 pi i k/n).
func root(n, k int) complex128 {
	return cmplx.Rect(1, 2*math.Pi*float64(k%n)/float64(n))
}

// at returns the value at a of a character, of which the root of unity is raised to the
// power power.
func at(t *testing.T, x api.Character, a, power int) complex128 {
	t.Helper()
	v, e := dirichlet.Value(x, a)
	if e != api.OK {
		t.Fatal(x, a, e)
	}
	if v.Zero {
		return 0
	}
	return root(v.Den, v.Num*power)
}

// checkElement reports an element of Q(zeta_n) that does not have the value want(power)
// wherever zeta_n becomes its power with an exponent that is prime to n. The coordinates
// must be integers, so that these values determine them.
func checkElement(t *testing.T, n int, a api.Elem, want func(power int) complex128) {
	t.Helper()
	if len(a) > phi(n) || len(a) > 0 && rational.Sign(a[len(a)-1]) == 0 {
		t.Fatal("not normalized", n, a)
	}
	var coordinates []int
	for _, c := range a {
		z, whole := rational.Integer(c)
		k, small := bigint.Small(z)
		if !whole || !small || len(c.Den.Mag) != 1 || c.Den.Neg || c.Den.Mag[0] != 1 || len(c.Num.Mag) > 1 || k == 0 && (len(c.Num.Mag) > 0 || c.Num.Neg) {
			t.Fatal(n, a)
		}
		coordinates = append(coordinates, k)
	}
	for power := 1; power <= n; power++ {
		if gcd(power, n) != 1 {
			continue
		}
		var sum complex128
		for i, c := range coordinates {
			sum += complex(float64(c), 0) * root(n, i*power)
		}
		if cmplx.Abs(sum-want(power)) > 1e-6 {
			t.Fatal(n, power, coordinates, sum, want(power))
		}
	}
}

// product returns a b for elements of Q(zeta_n).
func product(t *testing.T, n int, a, b api.Elem) api.Elem {
	t.Helper()
	f, e := cyclotomic.Field(n)
	if e != api.OK {
		t.Fatal(n, e)
	}
	c, _ := numfield.Mul(f, a, b)
	return c
}

// lift returns an element of Q(zeta_n) as one of Q(zeta_m).
func lift(t *testing.T, n, m int, a api.Elem) api.Elem {
	t.Helper()
	b, e := cyclotomic.Lift(n, m, a)
	if e != api.OK {
		t.Fatal(n, m, e)
	}
	return b
}

// equal reports whether two normalized elements are equal.
func equal(a, b api.Elem) bool {
	return slices.EqualFunc(a, b, func(x, y api.Rat) bool { return rational.Cmp(x, y) == 0 })
}

// elem returns the element with these coordinates.
func elem(l ...int) api.Elem {
	var a api.Elem
	for _, n := range l {
		a = append(a, rational.Of(n))
	}
	return a
}
