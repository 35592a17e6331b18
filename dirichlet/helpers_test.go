package dirichlet_test

import (
	"math"
	"slices"
	"testing"

	"halfplane/api"
	"halfplane/dirichlet"
)

// noModuli are numbers that are no moduli.
var noModuli = []int{0, -1, -60, api.MaxModulus + 1, math.MaxInt, math.MinInt}

// malformed are values that are no characters, with the error of Check.
var malformed = []struct {
	x    api.Character
	want api.Errno
}{
	{api.Character{}, api.ErrRange}, {api.Character{Modulus: -5, Exps: []int{1}}, api.ErrRange}, {api.Character{Modulus: 61, Exps: []int{0}}, api.ErrRange}, {api.Character{Modulus: math.MaxInt}, api.ErrRange}, {api.Character{Modulus: math.MinInt, Exps: []int{-1}}, api.ErrRange},
	{api.Character{Modulus: 5}, api.ErrShape}, {api.Character{Modulus: 5, Exps: []int{0, 0}}, api.ErrShape}, {api.Character{Modulus: 1, Exps: []int{0}}, api.ErrShape}, {api.Character{Modulus: 2, Exps: []int{0}}, api.ErrShape}, {api.Character{Modulus: 8, Exps: []int{-1}}, api.ErrShape}, {api.Character{Modulus: 24, Exps: []int{0, 1}}, api.ErrShape}, {api.Character{Modulus: 4}, api.ErrShape},
	{api.Character{Modulus: 5, Exps: []int{4}}, api.ErrForm}, {api.Character{Modulus: 5, Exps: []int{-1}}, api.ErrForm}, {api.Character{Modulus: 4, Exps: []int{2}}, api.ErrForm}, {api.Character{Modulus: 8, Exps: []int{1, 2}}, api.ErrForm}, {api.Character{Modulus: 16, Exps: []int{2, 1}}, api.ErrForm}, {api.Character{Modulus: 60, Exps: []int{1, 1, 4}}, api.ErrForm},
	{api.Character{Modulus: 3, Exps: []int{math.MinInt}}, api.ErrForm}, {api.Character{Modulus: 3, Exps: []int{math.MaxInt}}, api.ErrForm},
}

func isNone(x api.Character) bool {
	return x.Modulus == 0 && len(x.Exps) == 0
}

func same(x, y api.Character) bool {
	return x.Modulus == y.Modulus && slices.Equal(x.Exps, y.Exps)
}

func clone(x api.Character) api.Character {
	return api.Character{Modulus: x.Modulus, Exps: slices.Clone(x.Exps)}
}

// gcd is Euclid's algorithm, for comparison.
func gcd(a, b int) int {
	for b != 0 {
		a, b = b, a%b
	}
	return max(a, -a)
}

// order returns the order of a unit modulo n.
func order(a, n int) int {
	k := 1
	for b := a % n; b != 1%n; b = b * a % n {
		k++
	}
	return k
}

// phi counts the units modulo n.
func phi(n int) int {
	count := 0
	for a := range n {
		if gcd(a, n) == 1 {
			count++
		}
	}
	return count
}

// with returns the number from 0 to n - 1 that is a modulo q and 1 modulo n/q.
func with(n, a, q int) int {
	for x := range n {
		if (x-a)%q == 0 && (x-1)%(n/q) == 0 {
			return x
		}
	}
	return -1
}

// generators follows the definition.
func generators(n int) (values, orders []int) {
	rest := n
	for p := 2; p <= n; p++ {
		if rest%p != 0 {
			continue
		}
		q := 1
		for ; rest%p == 0; rest /= p {
			q *= p
		}
		switch {
		case q == 2:
		case q == 4:
			values, orders = append(values, with(n, 3, 4)), append(orders, 2)
		case p == 2:
			values, orders = append(values, with(n, q-1, q), with(n, 5, q)), append(orders, 2, q/4)
		default:
			root := 1
			for root%p == 0 || order(root, q) != phi(q) {
				root++
			}
			values, orders = append(values, with(n, root, q)), append(orders, phi(q))
		}
	}
	return values, orders
}

// An angle is a part of 2 pi in units of 1/scale, or -1 for the value 0. The orders of all
// characters divide the scale.
const scale = 2 * 2 * 2 * 2 * 3 * 3 * 3 * 5 * 7 * 11 * 13 * 23 * 29

// angles follows the definition of the values: it tries all products of powers.
func angles(x api.Character) []int {
	l := slices.Repeat([]int{-1}, x.Modulus)
	values, orders := generators(x.Modulus)
	var fill func(i, a, angle int)
	fill = func(i, a, angle int) {
		if i == len(values) {
			l[a] = angle
			return
		}
		for k := range orders[i] {
			fill(i+1, a, (angle+k*x.Exps[i]*(scale/orders[i]))%scale)
			a = a * values[i] % x.Modulus
		}
	}
	fill(0, 1%x.Modulus, 0)
	return l
}

// rootOf returns the root of unity of an angle.
func rootOf(angle int) api.RootOfUnity {
	if angle < 0 {
		return api.RootOfUnity{Zero: true}
	}
	g := gcd(angle, scale)
	return api.RootOfUnity{Num: angle / g, Den: scale / g}
}

// conductor follows the definition.
func conductor(x api.Character) int {
	l := angles(x)
	for f := 1; ; f++ {
		one := x.Modulus%f == 0
		for a, angle := range l {
			if (a-1)%f == 0 && angle > 0 {
				one = false
			}
		}
		if one {
			return f
		}
	}
}

// all is dirichlet.All, which must not fail.
func all(t *testing.T, n int) []api.Character {
	t.Helper()
	l, e := dirichlet.All(n)
	if e != api.OK {
		t.Fatal(n, e)
	}
	return l
}

// times adds angles.
func times(a, b int) int {
	if a < 0 || b < 0 {
		return -1
	}
	return (a + b) % scale
}
