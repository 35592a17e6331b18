package newform_test

import (
	"reflect"
	"slices"
	"testing"

	"halfplane/api"
	"halfplane/arith"
	"halfplane/bigint"
	"halfplane/charpoly"
	"halfplane/degeneracy"
	"halfplane/dimension"
	"halfplane/factor"
	"halfplane/hecke"
	"halfplane/matrix"
	"halfplane/newform"
	"halfplane/numfield"
	"halfplane/qpoly"
	"halfplane/rational"
	"halfplane/symbols"
	"halfplane/zpoly"
)

// spec names a space.
func spec(level, weight, disc int) api.Spec {
	return api.Spec{Level: level, Weight: weight, Disc: disc}
}

// spaces returns spaces of all kinds: with no, one or several orbits, of small and great
// degrees, with both bases of separators, and such that many primes tell the new forms from
// the others.
func spaces() []api.Spec {
	return []api.Spec{
		spec(1, 2, 1), spec(1, 12, 1), spec(1, 16, 1), spec(1, 24, 1), spec(2, 2, 1), spec(2, 8, 1), spec(3, 10, 1), spec(4, 6, 1), spec(5, 8, 1), spec(6, 4, 1), spec(9, 4, 1), spec(9, 8, 1),
		spec(10, 2, 1), spec(11, 2, 1), spec(15, 2, 1), spec(15, 4, 1), spec(20, 4, 1), spec(22, 4, 1), spec(23, 2, 1), spec(23, 4, 1), spec(27, 2, 1), spec(29, 2, 1), spec(32, 2, 1), spec(36, 2, 1), spec(37, 2, 1), spec(38, 2, 1), spec(41, 2, 1), spec(43, 2, 1),
		spec(45, 2, 1), spec(45, 4, 1), spec(49, 2, 1), spec(57, 2, 1), spec(66, 2, 1), spec(67, 2, 1), spec(73, 2, 1), spec(90, 2, 1), spec(97, 2, 1), spec(112, 2, 1), spec(120, 2, 1),
		spec(3, 3, -3), spec(3, 7, -3), spec(4, 5, -4), spec(7, 3, -7), spec(8, 3, -8), spec(8, 4, 8), spec(5, 4, 5), spec(12, 3, -4), spec(15, 3, -15), spec(15, 3, -3), spec(20, 3, -20), spec(20, 3, -4), spec(24, 2, 24), spec(24, 3, -24), spec(27, 3, -3), spec(29, 2, 29), spec(36, 2, 12), spec(39, 3, -39),
		spec(17, 4, 17), spec(45, 2, 5), spec(12, 5, -4),
	}
}

// madeForms and madeParts are the newforms and the parts that were made: it takes long to
// make them.
var (
	madeForms = map[api.Spec]*newform.Forms{}
	madeParts = map[api.Spec]part{}
)

// forms returns the newforms of a space.
func forms(t *testing.T, s api.Spec) *newform.Forms {
	t.Helper()
	if f := madeForms[s]; f != nil {
		return f
	}
	f, e := newform.New(s)
	if e != api.OK || f == nil {
		t.Fatalf("New(%v): %v, %d", s, f, e)
	}
	madeForms[s] = f
	return f
}

// part is V for a space, by its definition.
type part struct {
	module *symbols.Module
	space  api.Space
}

// partOf returns V.
func partOf(t *testing.T, s api.Spec) part {
	t.Helper()
	if v := madeParts[s]; v.module != nil {
		return v
	}
	m, e := symbols.New(s)
	if e != api.OK {
		t.Fatal(s, e)
	}
	v, e := degeneracy.NewSigned(m, 1)
	if e != api.OK {
		t.Fatal(s, e)
	}
	madeParts[s] = part{m, v}
	return madeParts[s]
}

// hecke returns the matrix of T_n on V.
func (v part) hecke(t *testing.T, n int) api.Matrix {
	t.Helper()
	a, e := hecke.On(v.module, n, v.space)
	if e != api.OK {
		t.Fatal(v.module.Spec(), n, e)
	}
	return a
}

// separated returns the least h, the matrix of t on V, and the factors of its
// characteristic polynomial, by their definition.
func (v part) separated(t *testing.T) (int, api.Matrix, []api.Factor) {
	t.Helper()
	var operators []api.Matrix
	for _, p := range primesOf(v.module.Spec()) {
		operators = append(operators, v.hecke(t, p))
	}
	for h := 1; h < 20; h++ {
		sum, _ := matrix.New(v.space.Basis.Rows, v.space.Basis.Rows)
		for i, a := range operators {
			multiple, _ := matrix.Scale(a, rational.Whole(power(h, i)))
			sum, _ = matrix.Add(sum, multiple)
		}
		g, _ := charpoly.CharPoly(sum)
		f, c := qpoly.Clear(g)
		if rational.Cmp(c, rational.Of(1)) != 0 {
			t.Fatalf("%v: the characteristic polynomial %v is not integral", v.module.Spec(), g)
		}
		_, l, e := factor.Factor(f)
		if e == api.OK && !slices.ContainsFunc(l, func(x api.Factor) bool { return x.Exp > 1 }) {
			return h, sum, l
		}
	}
	t.Fatal(v.module.Spec(), "no separator")
	return 0, api.Matrix{}, nil
}

// orbit returns the subspace of the v in V with v f(t) = 0.
func (v part) orbit(t *testing.T, sum api.Matrix, f api.ZPoly) api.Space {
	t.Helper()
	value, _ := charpoly.At(qpoly.Of(f), sum)
	c, _ := matrix.Kernel(value)
	basis, e := matrix.Mul(c, v.space.Basis)
	if e != api.OK {
		t.Fatal(e)
	}
	basis, _, _ = matrix.Echelon(basis)
	return api.Space{Dim: v.space.Dim, Basis: basis}
}

// primesOf returns the primes of a space.
func primesOf(s api.Spec) []int {
	bound, _ := dimension.Sturm(s)
	l, _ := arith.Primes(bound)
	return l
}

// power returns h^n.
func power(h, n int) api.Int {
	x, _ := bigint.Pow(bigint.Of(h), n)
	return x
}

// coefficient is f.Coefficient, which must not fail and return a normalized element.
func coefficient(t *testing.T, f *newform.Forms, i, n int) api.Elem {
	t.Helper()
	a, e := f.Coefficient(i, n)
	if e != api.OK {
		t.Fatalf("Coefficient(%v, %d, %d): %d", f.Spec(), i, n, e)
	}
	normal, e := numfield.Normal(field(t, f, i), a)
	if e != api.OK || !sameRats(a, normal) {
		t.Fatalf("Coefficient(%v, %d, %d): %v is not normalized", f.Spec(), i, n, a)
	}
	return a
}

// field is f.Field, which must not fail.
func field(t *testing.T, f *newform.Forms, i int) api.Field {
	t.Helper()
	k, e := f.Field(i)
	if e != api.OK || numfield.Check(k) != api.OK {
		t.Fatalf("Field(%v, %d): %v, %d", f.Spec(), i, k, e)
	}
	return k
}

// degree returns the degree of the field of an orbit.
func degree(t *testing.T, f *newform.Forms, i int) int {
	t.Helper()
	return zpoly.Degree(field(t, f, i).Modulus)
}

// chi returns the character of a space.
func chi(s api.Spec, n int) int {
	if arith.Gcd(n, s.Level) != 1 {
		return 0
	}
	return arith.Kronecker(s.Disc, n)
}

// rats returns integers as fractions.
func rats(l ...int) []api.Rat {
	var out []api.Rat
	for _, n := range l {
		out = append(out, rational.Of(n))
	}
	return out
}

// integers returns integers of any size.
func integers(l ...int) []api.Int {
	var out []api.Int
	for _, n := range l {
		out = append(out, bigint.Of(n))
	}
	return out
}

// sameInts reports whether normalized integers have the same fields.
func sameInts(a, b []api.Int) bool {
	return slices.EqualFunc(a, b, func(x, y api.Int) bool { return x.Neg == y.Neg && slices.Equal(x.Mag, y.Mag) })
}

// sameRats reports whether normalized fractions have the same fields.
func sameRats(a, b []api.Rat) bool {
	return slices.EqualFunc(a, b, func(x, y api.Rat) bool { return sameInts([]api.Int{x.Num, x.Den}, []api.Int{y.Num, y.Den}) })
}

// sameSeries reports whether normalized series have the same fields.
func sameSeries(a, b api.Series) bool {
	return a.From == b.From && sameRats(a.Coef, b.Coef)
}

// sameSpace reports whether subspaces have the same fields.
func sameSpace(a, b api.Space) bool {
	return a.Dim == b.Dim && a.Basis.Rows == b.Basis.Rows && a.Basis.Cols == b.Basis.Cols && sameRats(a.Basis.A, b.Basis.A)
}

// expectError checks that a result is an error with a zero value beside it.
func expectError(t *testing.T, name string, got any, e, want api.Errno) {
	t.Helper()
	if e != want || !reflect.ValueOf(got).IsZero() {
		t.Errorf("%s: %v, %d; want error %d", name, got, e, want)
	}
}

// spoil overwrites the memory of fractions.
func spoil(l []api.Rat) {
	for _, x := range l[:cap(l)] {
		spoilInts([]api.Int{x.Num, x.Den})
	}
}

// spoilInts overwrites the memory of integers.
func spoilInts(l []api.Int) {
	for _, x := range l[:cap(l)] {
		for k := range x.Mag[:cap(x.Mag)] {
			x.Mag[:cap(x.Mag)][k] = 77
		}
	}
}
