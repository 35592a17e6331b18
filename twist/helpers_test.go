package twist_test

import (
	"reflect"
	"slices"
	"testing"

	"halfplane/api"
	"halfplane/arith"
	"halfplane/newform"
	"halfplane/rational"
	"halfplane/zpoly"
)

// spec names a space.
func spec(level, weight, disc int) api.Spec {
	return api.Spec{Level: level, Weight: weight, Disc: disc}
}

// made are the newforms that were made: it takes long to make them.
var made = map[api.Spec]*newform.Forms{}

// forms returns the newforms of a space.
func forms(t *testing.T, s api.Spec) *newform.Forms {
	t.Helper()
	if f := made[s]; f != nil {
		return f
	}
	f, e := newform.New(s)
	if e != api.OK {
		t.Fatalf("New(%v): %d", s, e)
	}
	made[s] = f
	return f
}

// spaces returns spaces with newforms of all kinds: with and without complex multiplication,
// with rational coefficients and with others.
func spaces() []api.Spec {
	return []api.Spec{
		spec(11, 2, 1), spec(14, 2, 1), spec(15, 2, 1), spec(23, 2, 1), spec(24, 2, 1), spec(27, 2, 1), spec(32, 2, 1), spec(36, 2, 1), spec(37, 2, 1), spec(45, 2, 1), spec(48, 2, 1), spec(49, 2, 1), spec(50, 2, 1), spec(63, 2, 1), spec(64, 2, 1),
		spec(1, 12, 1), spec(5, 4, 1), spec(9, 4, 1), spec(16, 4, 1), spec(8, 4, 8), spec(3, 7, -3), spec(4, 5, -4), spec(7, 3, -7), spec(8, 3, -8), spec(12, 3, -4), spec(15, 3, -15), spec(20, 3, -4), spec(27, 3, -3), spec(29, 2, 29), spec(99, 2, 1),
	}
}

// discriminants returns 1 and the fundamental discriminants up to a limit, ascending.
func discriminants(limit int) []int {
	var l []int
	for disc := -limit; disc <= limit; disc++ {
		if isDisc(disc) {
			l = append(l, disc)
		}
	}
	return l
}

// isDisc reports whether disc is 1 or a fundamental discriminant, by the definition.
func isDisc(disc int) bool {
	n := disc
	if disc%4 == 0 {
		n = disc / 4
		if r := (n%4 + 4) % 4; r != 2 && r != 3 {
			return false
		}
	} else if (disc%4+4)%4 != 1 {
		return false
	}
	for d := 2; d*d <= max(n, -n); d++ {
		if n%(d*d) == 0 {
			return false
		}
	}
	return true
}

// place is the number of an orbit and of a coefficient.
type place struct {
	f    *newform.Forms
	i, n int
}

// known are the coefficients that were asked for.
var known = map[place]api.Elem{}

// coefficient is f.Coefficient, which must not fail.
func coefficient(t *testing.T, f *newform.Forms, i, n int) api.Elem {
	t.Helper()
	if a, ok := known[place{f, i, n}]; ok {
		return a
	}
	a, e := f.Coefficient(i, n)
	if e != api.OK {
		t.Fatalf("Coefficient(%v, %d, %d): %d", f.Spec(), i, n, e)
	}
	known[place{f, i, n}] = a
	return a
}

// times returns c a.
func times(c int, a api.Elem) api.Elem {
	var b api.Elem
	for _, x := range a {
		if c != 0 {
			b = append(b, rational.Mul(rational.Of(c), x))
		}
	}
	return b
}

// isRational reports whether an orbit has the degree 1.
func isRational(f *newform.Forms, i int) bool {
	k, _ := f.Field(i)
	return zpoly.Degree(k.Modulus) == 1
}

// isCM reports whether a_n is 0 for all n up to most at which the character is -1.
func isCM(t *testing.T, f *newform.Forms, i, disc, most int) bool {
	t.Helper()
	for n := 1; n <= most; n++ {
		if arith.Kronecker(disc, n) == -1 && len(coefficient(t, f, i, n)) > 0 {
			return false
		}
	}
	return true
}

// doMatch reports whether chi(n) a_n = b_n for all n up to most that are coprime to both
// levels and the discriminant.
func doMatch(t *testing.T, f *newform.Forms, i, disc int, g *newform.Forms, j, most int) bool {
	t.Helper()
	for n := 1; n <= most; n++ {
		if arith.Gcd(n, f.Spec().Level) != 1 || arith.Gcd(n, g.Spec().Level) != 1 || arith.Gcd(n, disc) != 1 {
			continue
		}
		if !same(times(arith.Kronecker(disc, n), coefficient(t, f, i, n)), coefficient(t, g, j, n)) {
			return false
		}
	}
	return true
}

// same reports whether normalized elements have the same fields.
func same(a, b api.Elem) bool {
	return slices.EqualFunc(a, b, func(x, y api.Rat) bool {
		return x.Num.Neg == y.Num.Neg && slices.Equal(x.Num.Mag, y.Num.Mag) && x.Den.Neg == y.Den.Neg && slices.Equal(x.Den.Mag, y.Den.Mag)
	})
}

// expectError checks that a result is an error with a zero value beside it.
func expectError(t *testing.T, name string, got any, e, want api.Errno) {
	t.Helper()
	if e != want || !reflect.ValueOf(got).IsZero() {
		t.Errorf("%s: %v, %d; want error %d", name, got, e, want)
	}
}
