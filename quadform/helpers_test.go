package quadform_test

import (
	"math"
	"math/rand"
	"testing"

	"halfplane/api"
	"halfplane/bigint"
	"halfplane/quadform"
)

type form = api.QuadForm

// wrong are values that are no forms, with the error of Check.
var wrong = map[form]api.Errno{
	{A: 10001, B: 0, C: 1}: api.ErrRange, {A: 1, B: 0, C: 10001}: api.ErrRange, {A: 10000, B: 10001, C: 10000}: api.ErrRange, {A: 10000, B: -10001, C: 10000}: api.ErrRange, {A: -10001}: api.ErrRange, {C: -10001}: api.ErrRange,
	{A: math.MaxInt, B: 1, C: 1}: api.ErrRange, {A: 1, B: math.MinInt, C: 1}: api.ErrRange, {A: 1, B: 1, C: math.MinInt}: api.ErrRange, {A: -1, B: 3, C: 20000}: api.ErrRange,
	{}: api.ErrDefinite, {A: 0, B: 0, C: 1}: api.ErrDefinite, {A: -1, B: 0, C: -1}: api.ErrDefinite, {A: 1, B: 2, C: 1}: api.ErrDefinite, {A: 1, B: 3, C: 1}: api.ErrDefinite, {A: 1, B: 0, C: 0}: api.ErrDefinite, {A: 1, B: 0, C: -1}: api.ErrDefinite,
	{A: -10000, B: 0, C: -10000}: api.ErrDefinite, {A: 2500, B: 10000, C: 10000}: api.ErrDefinite, {A: 0, B: 10000, C: 10000}: api.ErrDefinite,
}

// refused are forms for which there is no class, with the error of Compose.
var refused = map[form]api.Errno{
	{A: 1, B: 1, C: 1001}: api.ErrRange, {A: 10000, B: 0, C: 1}: api.ErrRange, {A: 2, B: 0, C: 502}: api.ErrRange, {A: 10000, B: 10000, C: 10000}: api.ErrRange,
	{A: 2, B: 0, C: 2}: api.ErrForm, {A: 3, B: 3, C: 3}: api.ErrForm, {A: 2, B: 2, C: 14}: api.ErrForm, {A: 10, B: 0, C: 100}: api.ErrForm, {A: 5, B: 10, C: 15}: api.ErrForm,
}

// noDiscs are numbers that are no discriminants, with the error of Classes.
var noDiscs = map[int]api.Errno{
	0: api.ErrRange, 1: api.ErrRange, 5: api.ErrRange, 4000: api.ErrRange, -4001: api.ErrRange, -4003: api.ErrRange, -4004: api.ErrRange, math.MaxInt: api.ErrRange, math.MinInt: api.ErrRange,
	-1: api.ErrDisc, -2: api.ErrDisc, -5: api.ErrDisc, -6: api.ErrDisc, -3998: api.ErrDisc, -3997: api.ErrDisc,
}

func disc(f form) int {
	return f.B*f.B - 4*f.A*f.C
}

func value(f form, x, y int) int {
	return f.A*x*x + f.B*x*y + f.C*y*y
}

// image is f m, by its values at (1, 0), (0, 1) and (1, 1).
func image(f form, m api.Mat2) form {
	a, c := value(f, m.A, m.C), value(f, m.B, m.D)
	return form{A: a, B: value(f, m.A+m.B, m.C+m.D) - a - c, C: c}
}

func isReduced(f form) bool {
	b := max(f.B, -f.B)
	return b <= f.A && f.A <= f.C && (f.B >= 0 || b < f.A && f.A < f.C)
}

// gcd is Euclid's algorithm, for comparison.
func gcd(a, b int) int {
	for b != 0 {
		a, b = b, a%b
	}
	return max(a, -a)
}

// reduced returns the reduced form by steps of 1.
func reduced(f form) form {
	for !isReduced(f) {
		switch {
		case f.A > f.C || f.A == f.C && f.B < 0:
			f = form{A: f.C, B: -f.B, C: f.A}
		case f.B > f.A:
			f = form{A: f.A, B: f.B - 2*f.A, C: f.A - f.B + f.C}
		default:
			f = form{A: f.A, B: f.B + 2*f.A, C: f.A + f.B + f.C}
		}
	}
	return f
}

// listed returns the classes of a discriminant by trying all reduced forms.
func listed(d int) []form {
	var l []form
	for a := 1; a*a <= -d; a++ {
		for b := -a; b <= a; b++ {
			c := (b*b - d) / (4 * a)
			if f := (form{A: a, B: b, C: c}); disc(f) == d && isReduced(f) && gcd(gcd(a, b), c) == 1 {
				l = append(l, f)
			}
		}
	}
	return l
}

// composed returns the composition by the product of the lattices with the bases A and
// (-B + sqrt(d))/2. The pair (x, y) is (x + y sqrt(d))/2.
func composed(f, g form) form {
	d := disc(f)
	var l [][2]int
	for _, x := range [][2]int{{2 * f.A, 0}, {-f.B, 1}} {
		for _, y := range [][2]int{{2 * g.A, 0}, {-g.B, 1}} {
			l = append(l, [2]int{(x[0]*y[0] + d*x[1]*y[1]) / 2, (x[0]*y[1] + x[1]*y[0]) / 2})
		}
	}
	// Euclid's algorithm with the second numbers leaves one vector where it is not 0.
	first, rest := l[0], 0
	for _, x := range l[1:] {
		for x[1] != 0 {
			q := first[1] / x[1]
			first, x = x, [2]int{first[0] - q*x[0], first[1] - q*x[1]}
		}
		rest = gcd(rest, x[0])
	}
	if first[1] < 0 {
		first[0], first[1] = -first[0], -first[1]
	}
	// The lattice is n times that of the form (a, b, c).
	n := first[1]
	a := rest / (2 * n)
	b := -first[0] / n % (2 * a)
	return reduced(form{A: a, B: b, C: (b*b - d) / (4 * a)})
}

// moved returns a form that is equivalent to f and has coefficients for Check.
func moved(r *rand.Rand, f form) form {
	for range 1 + r.Intn(4) {
		g := image(f, api.Mat2{A: 1, B: r.Intn(9) - 4, C: 0, D: 1})
		g = image(g, api.Mat2{A: 0, B: -1, C: 1, D: r.Intn(7) - 3})
		if quadform.Check(g) == api.OK {
			f = g
		}
	}
	return f
}

// twelfths returns 12 times a number, which must be an integer.
func twelfths(t *testing.T, x api.Rat) int {
	t.Helper()
	n, ok := bigint.Small(x.Num)
	d, also := bigint.Small(x.Den)
	if !ok || !also || d < 1 || 12%d != 0 || gcd(n, d) != 1 {
		t.Fatal(x)
	}
	return n * (12 / d)
}
