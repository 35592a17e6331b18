package numfield_test

import (
	"math"
	"math/big"
	"math/rand"
	"slices"
	"strings"
	"testing"

	"halfplane/api"
	"halfplane/bigint"
	"halfplane/rational"
	"halfplane/zpoly"
)

// poly is a polynomial of the tests' own arithmetic, without leading zeros.
type poly []*big.Rat

var minusZero = api.Int{Neg: true, Mag: []uint32{0, 0}}

// toInt reads an integer as its digits denote it.
func toInt(a api.Int) *big.Int {
	z := new(big.Int)
	for _, d := range slices.Backward(a.Mag) {
		z.Lsh(z, 32).Or(z, big.NewInt(int64(d)))
	}
	if a.Neg {
		z.Neg(z)
	}
	return z
}

// toRat reads a fraction as it is to be read, with 0 as a denominator.
func toRat(a api.Rat) *big.Rat {
	d := toInt(a.Den)
	if d.Sign() == 0 {
		return new(big.Rat)
	}
	return new(big.Rat).SetFrac(toInt(a.Num), d)
}

// fromRat returns a fraction, normalized.
func fromRat(a *big.Rat) api.Rat {
	z, _ := rational.Parse(strings.TrimSuffix(a.String(), "/1"))
	return z
}

// trim returns f without leading zeros.
func trim(f poly) poly {
	for len(f) > 0 && f[len(f)-1].Sign() == 0 {
		f = f[:len(f)-1]
	}
	return f
}

// toPoly reads a polynomial.
func toPoly(l []api.Rat) poly {
	var f poly
	for _, x := range l {
		f = append(f, toRat(x))
	}
	return trim(f)
}

// add returns f + c * x^i * g.
func add(f, g poly, c *big.Rat, i int) poly {
	h := make(poly, max(len(f), len(g)+i))
	for k := range h {
		h[k] = new(big.Rat)
		if k < len(f) {
			h[k].Set(f[k])
		}
		if k >= i && k-i < len(g) {
			h[k].Add(h[k], new(big.Rat).Mul(c, g[k-i]))
		}
	}
	return trim(h)
}

func mul(f, g poly) poly {
	var h poly
	for i, c := range f {
		h = add(h, g, c, i)
	}
	return h
}

// field is a monic polynomial of the tests' own arithmetic.
type field struct{ f poly }

func fieldOf(k api.Field) field {
	var f poly
	for _, c := range k.Modulus {
		f = append(f, new(big.Rat).SetInt(toInt(c)))
	}
	return field{trim(f)}
}

func (k field) degree() int {
	return len(k.f) - 1
}

// normal returns the remainder of a.
func (k field) normal(a poly) poly {
	for len(a) > k.degree() {
		n := len(a) - 1
		a = add(a, k.f, new(big.Rat).Neg(a[n]), n-k.degree())
	}
	return a
}

func (k field) mul(a, b poly) poly {
	return k.normal(mul(a, b))
}

// matrix returns the multiplication matrix of a.
func (k field) matrix(a poly) [][]*big.Rat {
	var m [][]*big.Rat
	a = k.normal(a)
	for range k.degree() {
		row := slices.Clone(a)
		for len(row) < k.degree() {
			row = append(row, new(big.Rat))
		}
		m = append(m, row)
		a = k.normal(add(nil, a, big.NewRat(1, 1), 1))
	}
	return m
}

// det returns a determinant by elimination.
func det(m [][]*big.Rat) *big.Rat {
	m = slices.Clone(m)
	for i := range m {
		m[i] = slices.Clone(m[i])
	}
	d := big.NewRat(1, 1)
	for col := range m {
		i := col
		for i < len(m) && m[i][col].Sign() == 0 {
			i++
		}
		if i == len(m) {
			return new(big.Rat)
		}
		if i > col {
			m[i], m[col] = m[col], m[i]
			d.Neg(d)
		}
		d.Mul(d, m[col][col])
		for _, row := range m[col+1:] {
			c := new(big.Rat).Quo(row[col], m[col][col])
			for j := range row {
				row[j] = new(big.Rat).Sub(row[j], new(big.Rat).Mul(c, m[col][j]))
			}
		}
	}
	return d
}

// minimal returns the monic polynomial g of least degree with g(a) = 0, by trying for
// the coefficients of each power whether it is a combination of those before it.
func (k field) minimal(a poly) poly {
	// Each row consists of a combination of powers of a, reduced, and its coefficients.
	type row struct{ value, combination poly }
	var rows []row
	power := poly{big.NewRat(1, 1)}
	for n := 0; ; n++ {
		r := row{power, add(nil, poly{big.NewRat(1, 1)}, big.NewRat(1, 1), n)}
		for _, s := range rows {
			at := len(s.value) - 1
			if at < len(r.value) {
				c := new(big.Rat).Quo(r.value[at], s.value[at])
				c.Neg(c)
				r.value, r.combination = add(r.value, s.value, c, 0), add(r.combination, s.combination, c, 0)
			}
		}
		if len(r.value) == 0 {
			return r.combination
		}
		rows = append(rows, r)
		slices.SortFunc(rows, func(r, s row) int { return len(s.value) - len(r.value) })
		power = k.mul(power, a)
	}
}

// normalized reports whether an integer has no leading zeros and is not a negative zero.
func normalized(a api.Int) bool {
	n := len(a.Mag)
	return n == 0 && !a.Neg || n > 0 && a.Mag[n-1] != 0
}

// checkRat reports a fraction that is not normalized or not the one expected.
func checkRat(t *testing.T, what string, got api.Rat, e api.Errno, want *big.Rat) {
	t.Helper()
	if e != api.OK || !normalized(got.Num) || !normalized(got.Den) || toInt(got.Num).Cmp(want.Num()) != 0 || toInt(got.Den).Cmp(want.Denom()) != 0 {
		t.Fatalf("%s = %v, %d, want %v", what, got, e, want)
	}
}

// check reports an element or a polynomial that is not normalized or not the one expected.
func check(t *testing.T, what string, got []api.Rat, e api.Errno, want poly) {
	t.Helper()
	if e != api.OK || len(got) != len(want) {
		t.Fatalf("%s = %v, %d, want %v", what, got, e, want)
	}
	for i, x := range got {
		checkRat(t, what, x, e, want[i])
	}
}

// checkMatrix reports a matrix that is not normalized or not the one expected.
func checkMatrix(t *testing.T, what string, got api.Matrix, e api.Errno, want [][]*big.Rat) {
	t.Helper()
	n := len(want)
	if e != api.OK || got.Rows != n || got.Cols != n {
		t.Fatalf("%s = %v, %d, want %v", what, got, e, want)
	}
	check(t, what, got.A, e, slices.Concat(want...))
}

// parse returns the fractions in a text.
func parse(s string) []api.Rat {
	var l []api.Rat
	for _, word := range strings.Fields(s) {
		x, e := rational.Parse(word)
		if e != api.OK {
			panic(word)
		}
		l = append(l, x)
	}
	return l
}

// modulus returns the field, or ring, with the modulus of a text.
func modulus(s string) api.Field {
	f, e := zpoly.Parse(s)
	if e != api.OK {
		panic(s)
	}
	return api.Field{Modulus: f}
}

// randomInt returns an integer of up to n digits, sometimes with leading zeros or a
// minus sign of zero.
func randomInt(r *rand.Rand, n int) api.Int {
	mag := make([]uint32, r.Intn(n+1))
	for i := range mag {
		switch r.Intn(3) {
		case 0:
			mag[i] = uint32(r.Intn(7))
		case 1:
			mag[i] = math.MaxUint32
		default:
			mag[i] = r.Uint32()
		}
	}
	return api.Int{Neg: r.Intn(2) == 0, Mag: mag}
}

// random returns an element of up to n coordinates of one of several kinds, which is not
// normalized.
func random(r *rand.Rand, n int) api.Elem {
	a := make(api.Elem, r.Intn(n+1))
	kind := r.Intn(3)
	for i := range a {
		switch kind {
		case 0:
			a[i] = api.Rat{Num: bigint.Of(r.Intn(9) - 4), Den: bigint.Of(1)}
		case 1:
			a[i] = api.Rat{Num: bigint.Of(r.Intn(41) - 20), Den: bigint.Of(r.Intn(9) - 4)}
		default:
			c := randomInt(r, 1)
			a[i] = api.Rat{Num: bigint.Mul(c, randomInt(r, 2)), Den: bigint.Mul(c, randomInt(r, 1))}
		}
	}
	return a
}

// fields are fields of all degrees that are small, and some of greater ones.
var fields = []string{
	"x", "x - 3", "x + 1", "x^2 - 2", "x^2 + 1", "x^2 + x - 1", "x^3 - 2", "x^3 - 3*x + 1", "x^3 + x^2 - 2*x - 1", "x^4 + 1", "x^4 - 10*x^2 + 1", "x^4 - x - 1",
	"x^5 - x - 1", "x^6 + x^5 + x^4 + x^3 + x^2 + x + 1", "x^8 - 1000000000000*x + 2", "x^12 - 3", "x^12 - x^6 + 1",
}

// rings are rings that are not fields.
var rings = []string{"x^2", "x^2 - 1", "x^2 - 4", "x^3 - x", "x^3 - 2*x^2 + x", "x^4 - 4", "x^4 + 2*x^2 + 1", "x^5 + x^4", "x^6 - 2*x^3 + 1", "x^9 - x", "x^12 - 1"}

// overwrite writes into all digits of an integer, up to the capacity.
func overwrite(a api.Int) {
	for i := range a.Mag[:cap(a.Mag)] {
		a.Mag[:cap(a.Mag)][i] = 0xDEADBEEF
	}
}

// text returns what a list of integers consists of, whatever their values.
func text(l []api.Int) string {
	var b strings.Builder
	for _, n := range l {
		if n.Neg {
			b.WriteString("-")
		}
		for _, d := range n.Mag {
			b.WriteString(big.NewInt(int64(d)).String() + ",")
		}
		b.WriteString(";")
	}
	return b.String()
}

// parts returns the numerators and denominators of fractions.
func parts(l []api.Rat) []api.Int {
	var z []api.Int
	for _, x := range l {
		z = append(z, x.Num, x.Den)
	}
	return z
}

// checkMemory reports integers of results that share memory with each other, which is
// seen by writing into them one by one.
func checkMemory(t *testing.T, l []api.Int) {
	t.Helper()
	for i := range l {
		before := text(l[i+1:])
		overwrite(l[i])
		if text(l[i+1:]) != before {
			t.Fatal("two integers share memory", i)
		}
	}
}
