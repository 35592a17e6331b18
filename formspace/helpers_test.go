package formspace_test

import (
	"math/rand"
	"slices"
	"testing"

	"halfplane/api"
	"halfplane/dimension"
	"halfplane/formspace"
	"halfplane/rational"
	"halfplane/series"
)

// spec names a space.
func spec(level, weight, disc int) api.Spec {
	return api.Spec{Level: level, Weight: weight, Disc: disc}
}

// of returns a series with integral coefficients.
func of(from int, coefficients ...int) api.Series {
	a := api.Series{From: from}
	for _, c := range coefficients {
		a.Coef = append(a.Coef, rational.Of(c))
	}
	return a
}

// same reports whether two series have the same fields.
func same(a, b api.Series) bool {
	return a.From == b.From && slices.EqualFunc(a.Coef, b.Coef, sameRat)
}

// sameRat reports whether fractions have the same fields.
func sameRat(x, y api.Rat) bool {
	return x.Num.Neg == y.Num.Neg && slices.Equal(x.Num.Mag, y.Num.Mag) && x.Den.Neg == y.Den.Neg && slices.Equal(x.Den.Mag, y.Den.Mag)
}

// sameSpace reports whether spaces of forms have the same fields.
func sameSpace(a, b api.FormSpace) bool {
	return a.Spec == b.Spec && a.Prec == b.Prec && slices.EqualFunc(a.Basis, b.Basis, same)
}

// maker makes the space of some kind of forms.
type maker func(s api.Spec, prec int) (api.FormSpace, api.Errno)

// made are the spaces of all forms and of the cusp forms that were made: it takes long to
// make them.
var made = map[[4]int]api.FormSpace{}

// whole is formspace.Whole, which must not fail.
func whole(t *testing.T, s api.Spec, prec int) api.FormSpace {
	t.Helper()
	return makeSpace(t, formspace.Whole, 0, s, prec)
}

// cusp is formspace.Cusp, which must not fail.
func cusp(t *testing.T, s api.Spec, prec int) api.FormSpace {
	t.Helper()
	return makeSpace(t, formspace.Cusp, 1000, s, prec)
}

// eisenstein is formspace.Eisenstein, which must not fail.
func eisenstein(t *testing.T, s api.Spec, prec int) api.FormSpace {
	t.Helper()
	return makeSpace(t, formspace.Eisenstein, 2000, s, prec)
}

// makeSpace makes a space, unless it was made before, and returns a copy.
func makeSpace(t *testing.T, m maker, number int, s api.Spec, prec int) api.FormSpace {
	t.Helper()
	key := [4]int{s.Level, s.Weight, s.Disc, prec<<12 + number}
	if f, ok := made[key]; ok {
		return copySpace(f)
	}
	f, code := m(s, prec)
	if code != api.OK {
		t.Fatalf("%v, %d: %d", s, prec, code)
	}
	if code := formspace.Check(f); code != api.OK || f.Spec != s || f.Prec != prec {
		t.Fatalf("%v, %d: %v, %d", s, prec, f, code)
	}
	made[key] = f
	return copySpace(f)
}

// copySpace returns a copy of a space that shares no memory with it.
func copySpace(f api.FormSpace) api.FormSpace {
	c := f
	c.Basis = nil
	for _, a := range f.Basis {
		c.Basis = append(c.Basis, copySeries(a))
	}
	return c
}

// copySeries returns a copy of a series.
func copySeries(a api.Series) api.Series {
	b := api.Series{From: a.From}
	for _, x := range a.Coef {
		b.Coef = append(b.Coef, api.Rat{
			Num: api.Int{Neg: x.Num.Neg, Mag: slices.Clone(x.Num.Mag)},
			Den: api.Int{Neg: x.Den.Neg, Mag: slices.Clone(x.Den.Mag)},
		})
	}
	return b
}

// bound is dimension.Sturm, which must not fail.
func bound(t *testing.T, s api.Spec) int {
	t.Helper()
	b, code := dimension.Sturm(s)
	if code != api.OK {
		t.Fatalf("Sturm(%v): %d", s, code)
	}
	return b
}

// specs are spaces of all sorts: old and new forms, characters, no forms at all.
func specs() []api.Spec {
	return []api.Spec{
		spec(1, 2, 1), spec(1, 4, 1), spec(1, 12, 1), spec(1, 24, 1), spec(2, 8, 1), spec(2, 2, 1), spec(3, 5, -3), spec(4, 6, 1), spec(4, 3, -4), spec(4, 9, -4), spec(5, 2, 5), spec(5, 8, 5), spec(6, 4, 1), spec(7, 3, -7), spec(8, 4, 8), spec(9, 4, 1), spec(10, 2, 1), spec(11, 2, 1), spec(11, 6, 1), spec(12, 4, 12), spec(16, 4, 1), spec(22, 2, 1), spec(23, 2, 1), spec(23, 3, -23), spec(24, 3, -24), spec(27, 3, -3), spec(36, 2, 1), spec(40, 2, 40), spec(44, 2, 1), spec(46, 2, 1), spec(60, 2, 1), spec(60, 3, -15), spec(69, 2, 1), spec(118, 2, 1),
	}
}

// combination returns a random combination of series.
func combination(r *rand.Rand, l []api.Series, prec int) api.Series {
	sum, _ := series.Monomial(rational.Of(0), prec, prec)
	for _, a := range l {
		x, _ := rational.Quo(rational.Of(r.Intn(9)-4), rational.Of(1+r.Intn(3)))
		b, _ := series.Scale(x, a)
		sum, _ = series.Add(sum, b)
	}
	return sum
}

// part returns the span of some random combinations of the basis of a space.
func part(t *testing.T, r *rand.Rand, f api.FormSpace, n int) api.FormSpace {
	t.Helper()
	var l []api.Series
	for range n {
		l = append(l, combination(r, f.Basis, f.Prec))
	}
	g, code := formspace.Span(f.Spec, append(l, api.Series{From: f.Prec}))
	if code != api.OK {
		t.Fatalf("Span(%v): %d", l, code)
	}
	return g
}

// disguise returns a series whose fields are other ones, but whose value is the same.
func disguise(a api.Series) api.Series {
	b := api.Series{From: a.From - 1, Coef: []api.Rat{{Num: api.Int{Neg: true, Mag: []uint32{7}}}}}
	six := api.Int{Neg: true, Mag: []uint32{6, 0}}
	for _, x := range a.Coef {
		num, den := rational.Mul(rational.Whole(x.Num), rational.Whole(six)), rational.Mul(rational.Whole(x.Den), rational.Whole(six))
		b.Coef = append(b.Coef, api.Rat{Num: api.Int{Neg: num.Num.Neg, Mag: append(slices.Clone(num.Num.Mag), 0)}, Den: den.Num})
	}
	return b
}

// slicesOf returns the slices of series, by their first elements.
func slicesOf(l ...api.Series) []any {
	var all []any
	if len(l) > 0 {
		all = append(all, &l[0])
	}
	for _, a := range l {
		if len(a.Coef) > 0 {
			all = append(all, &a.Coef[0])
		}
		for _, x := range a.Coef {
			for _, mag := range [][]uint32{x.Num.Mag, x.Den.Mag} {
				if len(mag) > 0 {
					all = append(all, &mag[0])
				}
			}
		}
	}
	return all
}

// checkMemory checks that no two slices share memory.
func checkMemory(t *testing.T, what string, l ...[]any) {
	t.Helper()
	seen := map[any]bool{}
	for _, p := range slices.Concat(l...) {
		if seen[p] {
			t.Fatalf("%s: two slices share memory", what)
		}
		seen[p] = true
	}
}

// quotient returns the fraction n/d.
func quotient(n, d int) api.Rat {
	x, _ := rational.Quo(rational.Of(n), rational.Of(d))
	return x
}
