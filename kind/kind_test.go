package kind_test

import (
	"math"
	"math/rand"
	"reflect"
	"strings"
	"testing"

	"halfplane/api"
	"halfplane/arith"
	"halfplane/expand"
	"halfplane/expr"
	"halfplane/formspace"
	"halfplane/kind"
	"halfplane/series"
)

func TestExamples(t *testing.T) { // P53.3, P53.4
	for _, x := range []struct {
		text  string
		kind  api.FormKind
		bound int
	}{
		{"E4^3 - E6^2", kindOf(12, 1, 1, 0, false), 1},
		{"E4^3 - 1728*Delta - E6^2", kindOf(12, 1, 1, 0, false), 1},
		{"eta(11)[2, 2] - newform(11, 2, 1, 0)", kindOf(2, 11, 1, 0, true), 2},
		{"theta(2)[2, 0, 0, 2]", kindOf(1, 4, -4, 0, false), 0},
		{"theta(2)[2, 0, 0, 2]^2", kindOf(2, 4, 1, 0, false), 1},
		{"U(5, eta(25)[-1, 0, 1])", kindOf(0, 25, 1, 5, false), 145},
		{"j^2", kindOf(0, 1, 1, 2, false), 0},
	} {
		k, code := kind.Of(parse(t, x.text), nil)
		if k != x.kind || code != api.OK {
			t.Errorf("Of(%s): %v, %d", x.text, k, code)
		}
		if b, code := kind.Bound(k); b != x.bound || code != api.OK {
			t.Errorf("Bound(%v): %d, %d", k, b, code)
		}
	}
}

func TestValid(t *testing.T) { // P53.1
	for _, k := range []api.FormKind{
		kindOf(-60, 1, 1, 0, false), kindOf(60, 600, 1, 100, false), kindOf(0, 599, 1, 0, true), kindOf(1, 3, -3, 0, true), kindOf(1, 600, 5, 7, false), kindOf(1, 600, -24, 7, false), kindOf(2, 4, -4, 0, false), kindOf(2, 8, 8, 0, false), kindOf(2, 8, -8, 1, false), kindOf(2, 597, 597, 1, false), kindOf(2, 595, -595, 1, false),
	} {
		if !kind.Valid(k) {
			t.Errorf("Valid(%v) is false", k)
		}
	}
	for _, k := range invalid() {
		if kind.Valid(k) {
			t.Errorf("Valid(%v) is true", k)
		}
	}
}

// invalid are kinds that are not valid.
func invalid() []api.FormKind {
	return []api.FormKind{
		{}, kindOf(-61, 1, 1, 0, false), kindOf(61, 1, 1, 0, false), kindOf(math.MinInt, 1, 1, 0, false), kindOf(math.MaxInt, 1, 1, 0, false), kindOf(2, 0, 1, 0, false), kindOf(2, -1, 1, 0, false), kindOf(2, 601, 1, 0, false), kindOf(2, math.MaxInt, 1, 0, false), kindOf(2, math.MinInt, 1, 0, false),
		kindOf(2, 12, 0, 0, false), kindOf(2, 12, 2, 0, false), kindOf(2, 12, 4, 0, false), kindOf(2, 12, -1, 0, false), kindOf(2, 36, -12, 0, false), kindOf(2, 16, 16, 0, false), kindOf(2, 12, 3, 0, false), kindOf(2, 11, -3, 0, false), kindOf(2, 3, -6, 0, false), kindOf(2, 2, -4, 0, false), kindOf(2, 1, 5, 0, false), kindOf(2, 5, math.MinInt, 0, false), kindOf(2, 5, math.MaxInt, 0, false),
		kindOf(2, 1, 1, -1, false), kindOf(2, 1, 1, 101, false), kindOf(2, 1, 1, 1, true), kindOf(2, 1, 1, math.MaxInt, false), kindOf(2, 1, 1, math.MinInt, true),
	}
}

func TestWithin(t *testing.T) { // P53.1
	a := kindOf(12, 6, -3, 2, false)
	for _, x := range []struct {
		a, b   api.FormKind
		within bool
	}{
		{a, a, true}, {a, kindOf(12, 30, -3, 2, false), true}, {a, kindOf(12, 6, -3, 100, false), true}, {a, kindOf(12, 3, -3, 2, false), false}, {a, kindOf(12, 9, -3, 2, false), false}, {a, kindOf(12, 6, -3, 1, false), false}, {a, kindOf(11, 6, -3, 2, false), false}, {a, kindOf(12, 6, 1, 2, false), false},
		{kindOf(12, 1, 1, 0, true), kindOf(12, 1, 1, 0, false), true}, {kindOf(12, 1, 1, 0, false), kindOf(12, 1, 1, 0, true), false}, {kindOf(12, 1, 1, 0, true), kindOf(12, 5, 1, 0, true), true}, {kindOf(12, 1, 1, 0, true), kindOf(12, 5, 1, 1, false), true}, {kindOf(12, 6, 1, 0, false), kindOf(12, 600, 1, 0, false), true},
	} {
		if kind.Within(x.a, x.b) != x.within {
			t.Errorf("Within(%v, %v) is not %t", x.a, x.b, x.within)
		}
	}
	for _, k := range invalid() {
		if kind.Within(k, k) || kind.Within(k, a) || kind.Within(a, k) {
			t.Errorf("Within with %v", k)
		}
	}
}

func TestJoin(t *testing.T) { // P53.1
	a := kindOf(4, 6, -3, 2, false)
	for _, x := range []struct {
		a, b, want api.FormKind
		code       api.Errno
	}{
		{a, a, a, api.OK}, {a, kindOf(4, 15, -3, 1, false), kindOf(4, 30, -3, 2, false), api.OK}, {a, kindOf(4, 3, -3, 0, true), a, api.OK}, {kindOf(4, 24, -3, 0, true), kindOf(4, 75, -3, 0, true), kindOf(4, 600, -3, 0, true), api.OK}, {kindOf(4, 24, -3, 0, true), kindOf(4, 24, -3, 0, false), kindOf(4, 24, -3, 0, false), api.OK},
		{a, kindOf(5, 6, -3, 2, false), api.FormKind{}, api.ErrKind}, {a, kindOf(4, 6, 1, 2, false), api.FormKind{}, api.ErrKind}, {kindOf(4, 599, 1, 0, false), kindOf(5, 2, 1, 0, false), api.FormKind{}, api.ErrKind}, {kindOf(4, 599, 1, 0, false), kindOf(4, 2, 1, 0, false), api.FormKind{}, api.ErrLarge}, {kindOf(4, 599, 1, 0, false), kindOf(4, 598, 1, 0, false), api.FormKind{}, api.ErrLarge}, {kindOf(4, 7, 1, 0, false), kindOf(4, 86, 1, 0, false), api.FormKind{}, api.ErrLarge},
	} {
		for _, swapped := range []bool{false, true} {
			if swapped {
				x.a, x.b = x.b, x.a
			}
			if k, code := kind.Join(x.a, x.b); k != x.want || code != x.code {
				t.Errorf("Join(%v, %v): %v, %d", x.a, x.b, k, code)
			}
		}
	}
	for _, k := range invalid() {
		for _, x := range [][2]api.FormKind{{k, k}, {k, a}, {a, k}} {
			if k, code := kind.Join(x[0], x[1]); k != (api.FormKind{}) || code != api.ErrForm {
				t.Errorf("Join(%v, %v): %v, %d", x[0], x[1], k, code)
			}
		}
	}
}

func TestBound(t *testing.T) { // P53.4
	for level := 1; level <= api.KindLevel; level++ {
		index, _ := arith.Psi(level)
		for _, weight := range []int{-60, -13, -12, -1, 0, 1, 2, 11, 12, 60} {
			for _, pole := range []int{0, 1, 2, 100} {
				// The bound is the greatest integer b for which 12 (b + pole) is at most this.
				total := (weight + 12*pole) * index
				b, code := kind.Bound(kindOf(weight, level, 1, pole, false))
				if code == api.ErrLarge {
					if b != 0 || total < 12*(401+pole) {
						t.Errorf("weight %d, level %d, pole %d: ErrLarge", weight, level, pole)
					}
				} else if code != api.OK || b > 400 || 12*(b+pole) > total || 12*(b+1+pole) <= total {
					t.Errorf("weight %d, level %d, pole %d: %d, %d", weight, level, pole, b, code)
				}
			}
		}
	}
	for _, k := range invalid() {
		if b, code := kind.Bound(k); b != 0 || code != api.ErrForm {
			t.Errorf("Bound(%v): %d, %d", k, b, code)
		}
	}
}

func TestBoundDecides(t *testing.T) { // P53.4
	// The form with the greatest order: a power of Delta, and the eta quotient of level 2
	// all zeros of which are at infinity.
	for _, s := range []string{"Delta", "Delta^2", "Delta^5", "eta(2)[-8, 16]", "eta(2)[-16, 32]", "eta(2)[-8, 16]^5", "eta(4)[0, -4, 8]"} {
		k, code := kind.Of(parse(t, s), nil)
		b, _ := kind.Bound(k)
		a, more := expand.Expand(parse(t, s), nil, b+2)
		if code != api.OK || more != api.OK || a.From != b {
			t.Errorf("%s: kind %v, bound %d, expansion %v, %d, %d", s, k, b, a, code, more)
		}
	}
}

func TestRules(t *testing.T) { // P53.3
	defs := define(t, "f", "Delta", "g", "V(2, f)*j", "h", "theta(2)[2, 0, 0, 2]")
	for s, want := range map[string]api.FormKind{
		"7": kindOf(0, 1, 1, 0, false), "0": kindOf(0, 1, 1, 0, false), "E4": kindOf(4, 1, 1, 0, false), "E40": kindOf(40, 1, 1, 0, false), "Delta": kindOf(12, 1, 1, 0, true), "j": kindOf(0, 1, 1, 1, false),
		"G(3, 1, -4, 1)": kindOf(3, 4, -4, 0, false), "G(3, -4, 1, 5)": kindOf(3, 20, -4, 0, false), "G(2, 1, 1, 4)": kindOf(2, 4, 1, 0, false), "G(4, 1, 1, 1)": kindOf(4, 1, 1, 0, false), "G(4, 5, 5, 2)": kindOf(4, 50, 1, 0, false), "G(5, -3, 5, 2)": kindOf(5, 30, -15, 0, false), "G(4, -3, -4, 1)": kindOf(4, 12, 12, 0, false), "G(4, 8, -4, 1) + 0*E4": {}, "G(5, 8, -4, 1)": kindOf(5, 32, -8, 0, false), "G(2, 1, 1, 600)": kindOf(2, 600, 1, 0, false), "G(40, 1, 60, 1)": kindOf(40, 60, 60, 0, false),
		"eta(1)[24]": kindOf(12, 1, 1, 0, true), "eta(11)[2, 2]": kindOf(2, 11, 1, 0, true), "eta(4)[-4, 10, -4]": kindOf(1, 4, -4, 0, false), "eta(25)[-1, 0, 1]": kindOf(0, 25, 1, 1, false), "eta(1)[-24]": kindOf(-12, 1, 1, 1, false), "eta(2)[24, -24]": kindOf(0, 2, 1, 1, false), "eta(2)[192, -192]": kindOf(0, 2, 1, 8, false), "eta(600)" + zeros(24): kindOf(0, 600, 1, 0, false), "eta(3)[-3, 9]": kindOf(3, 3, -3, 0, false),
		"theta(2)[2, 0, 0, 2]": kindOf(1, 4, -4, 0, false), "theta(2)[2, 1, 1, 2]": kindOf(1, 3, -3, 0, false), eighth: kindOf(4, 1, 1, 0, false), "theta(2)[2, 0, 0, 300]": kindOf(1, 600, -24, 0, false),
		"newform(11, 2, 1, 0)": kindOf(2, 11, 1, 0, true), "newform(23, 3, -23, 1)": kindOf(3, 23, -23, 0, true), "newform(10, 2, 1, 63)": kindOf(2, 10, 1, 0, true),
		"f": kindOf(12, 1, 1, 0, true), "g": kindOf(12, 2, 1, 1, false), "h": kindOf(1, 4, -4, 0, false), "h*h": kindOf(2, 4, 1, 0, false),
		"E4 + E4": kindOf(4, 1, 1, 0, false), "Delta - V(6, Delta) + V(4, Delta)": kindOf(12, 12, 1, 0, true), "Delta + E4^3": kindOf(12, 1, 1, 0, false), "E4*j + V(2, E4)*j^2 + E4": kindOf(4, 2, 1, 2, false), "Delta + f*j": kindOf(12, 1, 1, 1, false),
		"E4*E6": kindOf(10, 1, 1, 0, false), "2*Delta": kindOf(12, 1, 1, 0, true), "Delta*E4*Delta": kindOf(28, 1, 1, 0, true), "Delta*j": kindOf(12, 1, 1, 1, false), "j*V(2, j)": kindOf(0, 2, 1, 3, false), "h*theta(2)[2, 1, 1, 2]*E4": kindOf(6, 12, 12, 0, false), "h*G(3, 1, -4, 1)": kindOf(4, 4, 1, 0, false), "V(25, E4)*V(8, E4)*V(3, E4)": kindOf(12, 600, 1, 0, false), "Delta^5*Delta*Delta^-2": kindOf(48, 1, 1, 2, false),
		"Delta^0": kindOf(0, 1, 1, 0, false), "j^0": kindOf(0, 1, 1, 0, false), "h^0": kindOf(0, 1, 1, 0, false), "g^1": kindOf(12, 2, 1, 1, false), "Delta^5": kindOf(60, 1, 1, 0, true), "h^2": kindOf(2, 4, 1, 0, false), "h^3": kindOf(3, 4, -4, 0, false), "j^100": kindOf(0, 1, 1, 100, false), "3^200": kindOf(0, 1, 1, 0, false),
		"Delta^-1": kindOf(-12, 1, 1, 1, false), "Delta^-5": kindOf(-60, 1, 1, 5, false), "eta(25)[-1, 0, 1]^-1": kindOf(0, 25, 1, 1, false), "eta(4)[-4, 10, -4]^-1": kindOf(-1, 4, -4, 1, false), "eta(4)[-4, 10, -4]^-2": kindOf(-2, 4, 1, 1, false), "eta(2)[-24, 24]^-8": kindOf(0, 2, 1, 8, false), "eta(1)[-24]^-1": kindOf(12, 1, 1, 0, true), "eta(11)[2, 2]^-2": kindOf(-4, 11, 1, 2, false),
		"V(1, j)": kindOf(0, 1, 1, 1, false), "V(6, Delta)": kindOf(12, 6, 1, 0, true), "V(100, j)": kindOf(0, 100, 1, 100, false), "V(150, h)": kindOf(1, 600, -4, 0, false), "V(2, V(3, h))": kindOf(1, 24, -4, 0, false),
		"U(1, j)": kindOf(0, 1, 1, 1, false), "U(12, Delta)": kindOf(12, 6, 1, 0, true), "U(8, h)": kindOf(1, 4, -4, 0, false), "U(45, j)": kindOf(0, 15, 1, 45, false), "U(599, E4)": kindOf(4, 599, 1, 0, false), "U(1000, V(7, E4))": kindOf(4, 70, 1, 0, false),
		"T(1, E4)": kindOf(4, 1, 1, 0, false), "T(3, newform(11, 2, 1, 0))": kindOf(2, 11, 1, 0, true), "T(11, h)": kindOf(1, 4, -4, 0, false), "T(100, E4*j)": kindOf(4, 1, 1, 100, false), "T(1000, Delta^5)": kindOf(60, 1, 1, 0, true),
		"twist(1, h)": kindOf(1, 4, -4, 0, false), "twist(-4, Delta)": kindOf(12, 16, 1, 0, true), "twist(-3, h)": kindOf(1, 36, -4, 0, false), "twist(-4, h)": kindOf(1, 16, -4, 0, false), "twist(5, theta(2)[2, 1, 1, 2])": kindOf(1, 75, -3, 0, false), "twist(-4, j)": kindOf(0, 16, 1, 16, false), "twist(-24, E4)": kindOf(4, 576, 1, 0, false), "twist(8, G(3, 1, -8, 1))": kindOf(3, 64, -8, 0, false),
		"serre(E4)": kindOf(6, 1, 1, 0, false), "serre(Delta)": kindOf(14, 1, 1, 0, true), "serre(j)": kindOf(2, 1, 1, 1, false), "serre(h)": kindOf(3, 4, -4, 0, false),
		"bracket(1, E4, E6)": kindOf(12, 1, 1, 0, true), "bracket(0, E4, E6)": kindOf(10, 1, 1, 0, false), "bracket(0, Delta, E4)": kindOf(16, 1, 1, 0, true), "bracket(0, E4, f)": kindOf(16, 1, 1, 0, true), "bracket(2, j, E4)": kindOf(8, 1, 1, 1, false), "bracket(6, j, V(2, j))": kindOf(12, 2, 1, 3, false), "bracket(1, h, theta(2)[2, 1, 1, 2])": kindOf(4, 12, 12, 0, true), "bracket(3, h, h)": kindOf(8, 4, 1, 0, true), "bracket(0, Delta, j)": kindOf(12, 1, 1, 1, false),
	} {
		k, code := kind.Of(parse(t, s), defs)
		if want.Level == 0 {
			if k != want || code == api.OK {
				t.Errorf("Of(%s): %v, %d", s, k, code)
			}
		} else if k != want || code != api.OK {
			t.Errorf("Of(%s): %v, %d, want %v", s, k, code, want)
		}
	}
}

// zeros returns a list of so many zeros as a text.
func zeros(n int) string {
	return "[" + strings.TrimSuffix(strings.Repeat("0, ", n), ", ") + "]"
}

func TestErrors(t *testing.T) { // P53.3
	defs := define(t, "f", "Delta", "g", "eta(2)[24, -24]")
	for code, l := range map[api.Errno][]string{
		api.ErrKind: {
			"E2", "G(2, 1, 1, 1)", "eta(1)[2]", "eta(1)[0] + eta(2)[1, 1]*E4", "E4 + E6", "E4 + theta(2)[2, 0, 0, 2]^4 + theta(2)[2, 0, 0, 2]", "theta(2)[2, 0, 0, 2] + theta(2)[2, 1, 1, 2]", "V(599, E4) + U(2, E6)", "E2^0", "0*E2", "serre(Delta^-1)", "bracket(0, Delta^-1, E4)", "bracket(1, E4, Delta^-1)", "1 + E4", "E2 + V(601, E4)", "E4 + E6^1 + E2", "E4 + E6 + V(600, E4)*2 - Delta + E8*j",
		},
		api.ErrRange: {
			"E0", "E1", "E42", "E41", "E1000000", "G(1, 1, -4, 1)", "G(41, 1, -4, 1)", "G(4, 1, 1, 0)", "G(4, 1, 1, 1001)", "eta(0)[1]", "eta(601)[1, 1]", "eta(-5)[1, 1]", "eta(1)[201]", "eta(1)[-201]", "eta(2)[24, 1000]", "theta(0)[2]", "theta(9)[2]", "theta(1)[1001]", "theta(1)[-1001]", "newform(0, 2, 1, 0)", "newform(121, 2, 1, 0)", "newform(11, 1, 1, 0)", "newform(11, 26, 1, 0)", "newform(11, 2, 121, 0)", "newform(11, 2, 1, 64)", "newform(11, 2, 1, -1)", "T(2, j)", "T(2, 5)", "T(1, Delta^-1)", "T(3, Delta*Delta^-1)",
		},
		api.ErrParity: {"E3", "E39", "G(3, 1, 1, 1)", "G(2, 1, -4, 1)", "eta(1)[1]", "eta(2)[24, 23]", "theta(1)[2]", "theta(3)[2, 0, 0, 0, 2, 0, 0, 0, 400]", "newform(11, 3, 1, 0)", "newform(23, 2, -23, 0)"},
		api.ErrDisc:   {"G(4, 2, 1, 1)", "G(4, 1, 61, 1)", "G(4, 0, 1, 1)", "G(4, -12, -3, 1)", "newform(12, 2, 2, 0)", "newform(12, 2, 0, 0)", "twist(2, E4)", "twist(0, E4)", "twist(1001, E4)", "twist(-1003, E4)", "twist(-12, E4)", "twist(1000000, E4)", "twist(4, V(600, E4))"},
		api.ErrShape:  {"eta(2)[24]", "eta(1)[24, 0]", "eta(600)" + zeros(23), "theta(2)[2]", "theta(2)[2, 0, 0, 2, 0]"},
		api.ErrForm:   {"theta(2)[2, 1, 0, 2]", "theta(1)[3]", "theta(2)[2, 1, 1, 3]"},
		api.ErrLevel:  {"newform(11, 3, -3, 0)", "newform(4, 2, 8, 0)"},
		api.ErrPole:   {"E4^-1", "j^-1", "3^-1", "f^-1", "g^-2", "(Delta^1)^-1", "(Delta*1)^-1", "(Delta^-1)^-1", "V(1, Delta)^-1", "newform(1, 12, 1, 0)^-1", "V(600, E4)^-200"},
		api.ErrMissing: {
			"h", "f1", "F", "h + E2", "E4*h^0", "V(601, h)", "bracket(1, h, Delta^-1)",
		},
		api.ErrDefinite: {"theta(2)[2, 2, 2, 2]", "theta(1)[-2]", "theta(2)[2, 3, 3, 2]", "theta(1)[0]"},
		api.ErrLarge: {
			"G(2, 1, 1, 601)", "G(4, 57, 57, 1)", "G(4, 1, 1, 1000)", "eta(1)[144]", "eta(1)[-144]", "theta(2)[2, 0, 0, 1000]", "newform(120, 4, 1, 0)", "V(599, E4) + V(2, E4)", "E40*E40", "E40*E40*Delta^-1", "E4 + E6 + V(601, E4)*2 - E2", "V(599, E4)*V(2, E4)", "j^100*j", "j^101", "Delta^6", "Delta^-6", "Delta^200", "Delta^-200", "eta(1)[24]^-9", "eta(2)[24, -24]^-9", "eta(1)[24]^-6", "eta(600)" + zeros(24) + "^-1*V(7, E4)",
			"V(601, E4)", "V(1000, 1)", "V(101, j)", "V(2, V(301, E4))", "U(601, E4)", "U(101, j)", "U(7, V(100, E4))", "T(101, E4*j)", "twist(29, E4)", "twist(13, j)", "twist(-4, V(75, E4))", "twist(1000000, E4)*V(601, E4)",
			"serre(Delta^5)", "serre(E40*E20)", "bracket(1, E40, E20)", "bracket(6, E40, E10)", "bracket(0, j^50, j^51)", "bracket(0, V(599, E4), V(2, E4))",
			"E4^0*V(601, E4)^0", "V(2, E4) + V(601, E4) + E6", "V(97, E4)*V(89, E4)*V(83, E4)*V(79, E4)*V(73, E4)*V(71, E4)*V(67, E4)*V(61, E4)*V(59, E4)*V(53, E4)", "twist(5, twist(-7, 1))*twist(-11, twist(13, 1))",
		},
	} {
		for _, s := range l {
			k, got := kind.Of(parse(t, s), defs)
			// twist(1000000, E4) comes first in its product.
			if want := code; s == "twist(1000000, E4)*V(601, E4)" {
				if got != api.ErrDisc {
					t.Errorf("Of(%s): %d, not %d", s, got, want)
				}
			} else if got != code || k != (api.FormKind{}) {
				t.Errorf("Of(%s): %v, %d, want %d", s, k, got, code)
			}
		}
	}
	for _, e := range []api.Expr{{}, {Op: api.OpSum}, {Op: api.OpDelta, Name: "a"}} {
		if k, code := kind.Of(e, defs); code != api.ErrForm || k != (api.FormKind{}) {
			t.Errorf("Of(%v): %v, %d", e, k, code)
		}
	}
	if _, code := kind.Of(api.Expr{Op: api.OpE, N: []int{-1}}, nil); code != api.ErrRange {
		t.Errorf("weight -1: %d", code)
	}
}

func TestProductDiscriminants(t *testing.T) { // P53.3
	// Many discriminants, whose product would be far too great.
	texts := []string{}
	for _, d := range []string{"-3", "5", "-7", "-11", "13", "17", "-19", "-23", "29", "-31", "37", "41", "-43", "-47", "53", "-59"} {
		k := "2"
		if d[0] == '-' {
			k = "3"
		}
		texts = append(texts, "G("+k+", 1, "+d+", 1)")
	}
	all := strings.Join(texts, "*")
	if _, code := kind.Of(parse(t, all), nil); code != api.ErrLarge {
		t.Errorf("%s: %d", all, code)
	}
	k, code := kind.Of(parse(t, "G(3, 1, -3, 1)*G(2, 1, 5, 1)*G(3, 1, -7, 1)*G(3, 1, -15, 1)"), nil)
	if want := kindOf(11, 105, -7, 0, false); k != want || code != api.OK {
		t.Errorf("%v, %d, want %v", k, code, want)
	}
}

func TestCheck(t *testing.T) { // P53.2
	e4 := parse(t, "E4")
	bind := func(names ...string) []api.Binding {
		var l []api.Binding
		for _, n := range names {
			l = append(l, api.Binding{Name: n, Expr: e4})
		}
		return l
	}
	var many []string
	for i := range 41 {
		many = append(many, "x"+strings.Repeat("y", i%20)+strings.Repeat("z", i/20))
	}
	many[19], many[39] = "p", "q"
	tooLarge := parse(t, "a")
	for range 12 {
		tooLarge = api.Expr{Op: api.OpSerre, Args: []api.Expr{tooLarge}}
	}
	for _, x := range []struct {
		defs []api.Binding
		code api.Errno
	}{
		{nil, api.OK}, {bind("a", "b"), api.OK}, {bind(many[:40]...), api.OK}, {bind(many...), api.ErrLarge}, {append(bind("E4"), bind(many[:40]...)...), api.ErrLarge}, {append(bind("E4"), bind(many[:39]...)...), api.ErrForm},
		{bind("E4"), api.ErrForm}, {bind(""), api.ErrForm}, {bind("a", "j"), api.ErrForm}, {bind("a", "b", "a"), api.ErrExists}, {bind("a", "E4", "a"), api.ErrForm}, {bind("a", "a", "E4"), api.ErrExists},
		{[]api.Binding{{Name: "a"}}, api.ErrForm}, {[]api.Binding{{Name: "a", Expr: tooLarge}}, api.ErrLarge}, {[]api.Binding{{Name: "a", Expr: e4}, {Name: "a", Expr: api.Expr{}}}, api.ErrExists}, {[]api.Binding{{Name: "a", Expr: api.Expr{Op: api.OpE, N: []int{-1}}}, {Name: "a", Expr: e4}}, api.ErrRange},
		{define(t, "a", "E2"), api.ErrKind}, {define(t, "a", "a"), api.ErrMissing}, {define(t, "a", "b", "b", "E4"), api.ErrMissing}, {define(t, "a", "E4", "b", "a + E6"), api.ErrKind}, {define(t, "a", "E4", "b", "a*E6", "c", "a*b + 1", "d", "x"), api.ErrKind}, {define(t, "a", "E4", "b", "a*E6", "c", "a*b + E14"), api.OK}, {define(t, "a", "V(601, j)", "b", "x"), api.ErrLarge}, {define(t, "a", "E4^-1"), api.ErrPole}, {define(t, "a", "E4", "b", "x", "a", "E4"), api.ErrMissing},
	} {
		if code := kind.Check(x.defs); code != x.code {
			t.Errorf("Check(%v): %d, want %d", x.defs, code, x.code)
		}
		// The errors of definitions come before those of the expression.
		for _, e := range []api.Expr{{}, tooLarge, e4} {
			if _, code := kind.Of(e, x.defs); x.code != api.OK && code != x.code {
				t.Errorf("Of with %v: %d, want %d", x.defs, code, x.code)
			}
		}
	}
}

func TestConsequences(t *testing.T) { // P53.5
	r := rand.New(rand.NewSource(53))
	defs := define(t, "unused", "V(100, j)", "f", "G(3, 1, -3, 1)", "g", "f^2*j")
	found := 0
	for found < 1500 {
		e, _, code := expr.Parse(random(r, 4))
		if code == api.ErrLarge {
			continue
		}
		k, code := kind.Of(e, defs)
		if other, more := kind.Of(e, defs[1:]); other != k || more != code {
			t.Fatalf("%v: an unused definition changes the kind %v, %d to %v, %d", e, k, code, other, more)
		}
		if code != api.OK {
			if k != (api.FormKind{}) {
				t.Fatalf("%v: %v beside the error %d", e, k, code)
			}
			continue
		}
		found++
		if !kind.Valid(k) || !kind.Within(k, k) {
			t.Fatalf("%v: %v is not valid", e, k)
		}
		prec := 3
		if a, code := expand.Expand(e, defs, prec); code == api.OK {
			if n, code := series.Order(a); code == api.OK && (n < -k.Pole || n == 0 && k.Cusp) {
				t.Errorf("%v of the kind %v begins with q^%d", e, k, n)
			}
		}
	}
}

func TestSums(t *testing.T) { // P53.5
	r := rand.New(rand.NewSource(5))
	defs := define(t, "f", "G(3, 1, -3, 1)", "g", "f^2*j")
	for range 3000 {
		a, b := parse(t, "("+random(r, 3)+")"), parse(t, "("+random(r, 3)+")")
		first, code := kind.Of(a, defs)
		second, more := kind.Of(b, defs)
		if code != api.OK || more != api.OK {
			continue
		}
		want, code := kind.Join(first, second)
		for _, args := range [][]api.Expr{{a, b}, {b, a}} {
			if k, got := kind.Of(api.Expr{Op: api.OpSum, Args: args}, defs); k != want || got != code {
				t.Fatalf("the sum of %v and %v: %v, %d, want %v, %d", first, second, k, got, want, code)
			}
		}
	}
}

func TestFormsHaveTheirKinds(t *testing.T) { // P53.3, P53.5
	// The product with a power of Delta is in the space of its kind, which layer 56 makes.
	for _, s := range []string{
		"E4", "Delta", "j", "j^2", "E4*Delta^-1", "G(3, 1, -4, 1)", "G(3, -4, 1, 2)", "G(2, 1, 1, 6)", "G(4, -3, -4, 1)", "G(2, 5, 1, 1)", "eta(11)[2, 2]", "eta(4)[-4, 10, -4]^4", "eta(4)[-4, 10, -4]^3", "eta(2)[24, -24]", "eta(3)[-3, 9]", "eta(3)[12, -12]", "eta(5)[6, -6]", "eta(4)[-4, 10, -4]^-1", "theta(2)[2, 0, 0, 2]^3", "theta(2)[2, 1, 1, 2]^3", "theta(2)[2, 0, 0, 2]*theta(2)[2, 1, 1, 2]",
		"newform(11, 2, 1, 0)", "newform(23, 2, 1, 0)", "newform(7, 3, -7, 0)", "V(3, eta(11)[2, 2])", "V(2, j)", "U(2, Delta)", "U(2, j)", "U(6, E4)", "U(4, theta(2)[2, 0, 0, 2]^5)", "T(2, newform(11, 2, 1, 0))", "T(3, G(3, 1, -4, 1))", "T(2, E4)", "twist(-3, E4)", "twist(-4, eta(2)[8, 8])", "twist(-4, G(3, 1, -4, 1))", "twist(-3, theta(2)[2, 1, 1, 2]^2)", "twist(5, E4)",
		"serre(E4)", "serre(j)", "serre(eta(11)[2, 2])", "serre(theta(2)[2, 0, 0, 2])", "bracket(1, E4, E6)", "bracket(2, theta(2)[2, 0, 0, 2], theta(2)[2, 0, 0, 2])", "bracket(1, theta(2)[2, 0, 0, 2], theta(2)[2, 1, 1, 2])", "bracket(1, j, G(2, 1, 1, 2))", "bracket(2, E4, V(2, E4))", "bracket(3, G(3, 1, -3, 1), theta(2)[2, 1, 1, 2])",
	} {
		k, code := kind.Of(parse(t, s), nil)
		if code != api.OK {
			t.Errorf("%s: %d", s, code)
			continue
		}
		holomorphic := parse(t, s)
		for range k.Pole {
			holomorphic = api.Expr{Op: api.OpProduct, Args: []api.Expr{{Op: api.OpDelta}, holomorphic}}
		}
		space := api.Spec{Level: k.Level, Weight: k.Weight + 12*k.Pole, Disc: k.Disc}
		bound, code := kind.Bound(kindOf(space.Weight, space.Level, space.Disc, 0, false))
		if code != api.OK {
			t.Fatalf("%s: %d", s, code)
		}
		a, code := expand.Expand(holomorphic, nil, bound+5)
		if code != api.OK {
			t.Fatalf("%s: %d", s, code)
		}
		f, code := formspace.Whole(space, bound+5)
		if k.Cusp {
			f, code = formspace.Cusp(space, bound+5)
		}
		if code != api.OK {
			t.Errorf("%s: the space %v: %d", s, space, code)
			continue
		}
		if _, code := formspace.Coordinates(f, a); code != api.OK {
			t.Errorf("%s of the kind %v: %d", s, k, code)
		}
	}
}

func TestMemory(t *testing.T) { // R3, R10
	defs := define(t, "f", "eta(11)[2, 2] - newform(11, 2, 1, 0)")
	e := parse(t, "f^2 + theta(2)[2, 1, 1, 2]^0*f*f")
	before := [2]any{parse(t, "f^2 + theta(2)[2, 1, 1, 2]^0*f*f"), define(t, "f", "eta(11)[2, 2] - newform(11, 2, 1, 0)")}
	k, code := kind.Of(e, defs)
	if !reflect.DeepEqual(before, [2]any{e, defs}) || code != api.OK {
		t.Errorf("Of wrote into its arguments")
	}
	spoil(e)
	spoil(defs[0].Expr)
	if k != kindOf(4, 11, 1, 0, true) {
		t.Errorf("Of: %v", k)
	}
	// Numbers may be written in any way.
	number := api.Expr{Op: api.OpNumber, C: api.Rat{Num: api.Int{Neg: true, Mag: []uint32{0, 0}}}}
	delta := api.Expr{Op: api.OpDelta, C: api.Rat{Num: api.Int{Neg: true, Mag: []uint32{0}}, Den: api.Int{Mag: []uint32{3, 0}}}}
	if k, code := kind.Of(api.Expr{Op: api.OpProduct, Args: []api.Expr{number, delta}}, nil); k != kindOf(12, 1, 1, 0, true) || code != api.OK {
		t.Errorf("0*Delta: %v, %d", k, code)
	}
}
