package zpoly_test

import (
	"math"
	"math/big"
	"math/rand"
	"slices"
	"testing"

	"halfplane/api"
	"halfplane/bigint"
	"halfplane/zpoly"
)

// poly is a polynomial of the tests' own arithmetic; its last coefficient is not 0.
type poly []*big.Int

var minusZero = api.Int{Neg: true, Mag: []uint32{0, 0}}

// toInt reads an integer as its digits denote it.
func toInt(a api.Int) *big.Int {
	z := new(big.Int)
	for _, d := range slices.Backward(a.Mag) {
		z.Lsh(z, 32).Or(z, big.NewInt(int64(d)))
	}
	if a.Neg {
		z.Neg(z)
	}
	return z
}

// toRat reads a fraction as it is to be read, with 0 as a denominator.
func toRat(a api.Rat) *big.Rat {
	d := toInt(a.Den)
	if d.Sign() == 0 {
		return new(big.Rat)
	}
	return new(big.Rat).SetFrac(toInt(a.Num), d)
}

// fromInt returns an integer, normalized.
func fromInt(a *big.Int) api.Int {
	z := api.Int{Neg: a.Sign() < 0}
	for rest := new(big.Int).Abs(a); rest.Sign() > 0; rest.Rsh(rest, 32) {
		z.Mag = append(z.Mag, uint32(new(big.Int).And(rest, big.NewInt(math.MaxUint32)).Uint64()))
	}
	return z
}

func trim(f poly) poly {
	for len(f) > 0 && f[len(f)-1].Sign() == 0 {
		f = f[:len(f)-1]
	}
	return f
}

// toPoly reads a polynomial.
func toPoly(f api.ZPoly) poly {
	g := make(poly, len(f))
	for i, a := range f {
		g[i] = toInt(a)
	}
	return trim(g)
}

func fromPoly(f poly) api.ZPoly {
	g := make(api.ZPoly, len(f))
	for i, a := range f {
		g[i] = fromInt(a)
	}
	return g
}

// of returns the polynomial with small coefficients, the constant one first.
func of(l ...int) api.ZPoly {
	f := make(api.ZPoly, len(l))
	for i, a := range l {
		f[i] = bigint.Of(a)
	}
	return f
}

// add returns f + c * g.
func add(f, g poly, c int64) poly {
	h := make(poly, max(len(f), len(g)))
	for i := range h {
		h[i] = new(big.Int)
		if i < len(f) {
			h[i].Add(h[i], f[i])
		}
		if i < len(g) {
			h[i].Add(h[i], new(big.Int).Mul(big.NewInt(c), g[i]))
		}
	}
	return trim(h)
}

func mul(f, g poly) poly {
	h := make(poly, len(f)+len(g))
	for i := range h {
		h[i] = new(big.Int)
	}
	for i, a := range f {
		for j, b := range g {
			h[i+j].Add(h[i+j], new(big.Int).Mul(a, b))
		}
	}
	return trim(h)
}

func derivative(f poly) poly {
	var g poly
	for i := 1; i < len(f); i++ {
		g = append(g, new(big.Int).Mul(big.NewInt(int64(i)), f[i]))
	}
	return g
}

// content returns the greatest common divisor of the coefficients.
func content(f poly) *big.Int {
	c := new(big.Int)
	for _, a := range f {
		c.GCD(nil, nil, c, new(big.Int).Abs(a))
	}
	return c
}

// primitive returns f divided by its content, with a positive leading coefficient.
func primitive(f poly) poly {
	g := slices.Clone(f)
	c := content(f)
	if len(f) > 0 && f[len(f)-1].Sign() < 0 {
		c.Neg(c)
	}
	for i, a := range f {
		g[i] = new(big.Int).Quo(a, c)
	}
	return g
}

// divisor returns the primitive greatest common divisor by Euclid's algorithm
// with primitive polynomials.
func divisor(f, g poly) poly {
	for len(g) > 0 {
		f, g = g, primitive(pseudoRemainder(f, g))
	}
	return primitive(f)
}

// pseudoRemainder returns a constant multiple of the remainder of f modulo g.
func pseudoRemainder(f, g poly) poly {
	r := slices.Clone(f)
	for len(r) >= len(g) {
		shifted := make(poly, len(r)-len(g), len(r))
		for i := range shifted {
			shifted[i] = new(big.Int)
		}
		shifted = append(shifted, g...)
		r = add(mul(r, poly{g[len(g)-1]}), mul(shifted, poly{r[len(r)-1]}), -1)
	}
	return r
}

// determinant returns the determinant of a square matrix (Bareiss).
func determinant(m [][]*big.Int) *big.Int {
	sign, last := int64(1), big.NewInt(1)
	for k := range m {
		pivot := k
		for pivot < len(m) && m[pivot][k].Sign() == 0 {
			pivot++
		}
		if pivot == len(m) {
			return new(big.Int)
		}
		if pivot != k {
			m[k], m[pivot] = m[pivot], m[k]
			sign = -sign
		}
		for i := k + 1; i < len(m); i++ {
			for j := k + 1; j < len(m); j++ {
				a, b := new(big.Int).Mul(m[i][j], m[k][k]), new(big.Int).Mul(m[i][k], m[k][j])
				m[i][j] = a.Sub(a, b).Quo(a, last)
			}
		}
		last = m[k][k]
	}
	return new(big.Int).Mul(big.NewInt(sign), last)
}

// sylvester returns the resultant of f and g, which are not 0, as a determinant.
func sylvester(f, g poly) *big.Int {
	m, n := len(f)-1, len(g)-1
	rows := make([][]*big.Int, m+n)
	for i := range rows {
		h, shift := f, i
		if i >= n {
			h, shift = g, i-n
		}
		rows[i] = make([]*big.Int, m+n)
		for j := range rows[i] {
			rows[i][j] = new(big.Int)
		}
		for j, a := range h {
			rows[i][shift+len(h)-1-j] = a
		}
	}
	return determinant(rows)
}

// randomInt returns an integer of up to n digits, sometimes with leading zeros or a minus sign of zero.
func randomInt(r *rand.Rand, n int) api.Int {
	mag := make([]uint32, r.Intn(n+1))
	for i := range mag {
		switch r.Intn(3) {
		case 0:
			mag[i] = uint32(r.Intn(7))
		case 1:
			mag[i] = math.MaxUint32
		default:
			mag[i] = r.Uint32()
		}
	}
	return api.Int{Neg: r.Intn(2) == 0, Mag: mag}
}

// randomPoly returns a polynomial of up to n coefficients, with small or great
// ones, sometimes with leading zeros.
func randomPoly(r *rand.Rand, n, digits int) api.ZPoly {
	f := make(api.ZPoly, r.Intn(n+1))
	small := r.Intn(2) == 0
	for i := range f {
		f[i] = randomInt(r, digits)
		if small {
			f[i] = bigint.Of(r.Intn(9) - 4)
		}
	}
	if r.Intn(4) == 0 {
		f = append(f, minusZero, api.Int{})
	}
	return f
}

// normalized reports whether an integer has no leading zeros and is not a negative zero.
func normalized(a api.Int) bool {
	n := len(a.Mag)
	return n == 0 && !a.Neg || n > 0 && a.Mag[n-1] != 0
}

// check reports a polynomial that is not normalized or not the one expected.
func check(t *testing.T, what string, got api.ZPoly, want poly) {
	t.Helper()
	ok := len(got) == len(want)
	for i := range got {
		ok = ok && normalized(got[i]) && toInt(got[i]).Cmp(want[i]) == 0
	}
	if !ok {
		t.Fatalf("%s = %v, want %v", what, got, want)
	}
}

func checkInt(t *testing.T, what string, got api.Int, want *big.Int) {
	t.Helper()
	if !normalized(got) || toInt(got).Cmp(want) != 0 {
		t.Fatalf("%s = %v, want %v", what, got, want)
	}
}

// same reports whether two results are equal.
func same(f, g api.ZPoly) bool {
	return slices.EqualFunc(f, g, sameInt)
}

func sameInt(a, b api.Int) bool {
	return a.Neg == b.Neg && slices.Equal(a.Mag, b.Mag)
}

// parse returns the polynomial of a text that is known to be right.
func parse(t *testing.T, s string) api.ZPoly {
	t.Helper()
	f, e := zpoly.Parse(s)
	if e != api.OK {
		t.Fatal(s, e)
	}
	return f
}
