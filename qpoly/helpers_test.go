package qpoly_test

import (
	"math"
	"math/big"
	"math/rand"
	"slices"
	"strings"
	"testing"

	"halfplane/api"
	"halfplane/bigint"
	"halfplane/rational"
)

// poly is a polynomial of the tests' own arithmetic; its last coefficient is not 0.
type poly []*big.Rat

var minusZero = api.Int{Neg: true, Mag: []uint32{0, 0}}

// toInt reads an integer as its digits denote it.
func toInt(a api.Int) *big.Int {
	z := new(big.Int)
	for _, d := range slices.Backward(a.Mag) {
		z.Lsh(z, 32).Or(z, big.NewInt(int64(d)))
	}
	if a.Neg {
		z.Neg(z)
	}
	return z
}

// toRat reads a fraction as it is to be read, with 0 as a denominator.
func toRat(a api.Rat) *big.Rat {
	d := toInt(a.Den)
	if d.Sign() == 0 {
		return new(big.Rat)
	}
	return new(big.Rat).SetFrac(toInt(a.Num), d)
}

func trim(f poly) poly {
	for len(f) > 0 && f[len(f)-1].Sign() == 0 {
		f = f[:len(f)-1]
	}
	return f
}

// toPoly reads a polynomial.
func toPoly(f api.Poly) poly {
	g := make(poly, len(f))
	for i, a := range f {
		g[i] = toRat(a)
	}
	return trim(g)
}

// add returns f + c * g.
func add(f, g poly, c int64) poly {
	h := make(poly, max(len(f), len(g)))
	for i := range h {
		h[i] = new(big.Rat)
		if i < len(f) {
			h[i].Add(h[i], f[i])
		}
		if i < len(g) {
			h[i].Add(h[i], new(big.Rat).Mul(big.NewRat(c, 1), g[i]))
		}
	}
	return trim(h)
}

func mul(f, g poly) poly {
	h := make(poly, len(f)+len(g))
	for i := range h {
		h[i] = new(big.Rat)
	}
	for i, a := range f {
		for j, b := range g {
			h[i+j].Add(h[i+j], new(big.Rat).Mul(a, b))
		}
	}
	return trim(h)
}

// remainder returns the remainder of f modulo g, which is not 0.
func remainder(f, g poly) poly {
	for len(f) >= len(g) {
		c := new(big.Rat).Quo(f[len(f)-1], g[len(g)-1])
		term := make(poly, len(f)-len(g)+1)
		for i := range term {
			term[i] = new(big.Rat)
		}
		term[len(term)-1] = c
		f = add(f, mul(term, g), -1)
	}
	return f
}

func monic(f poly) poly {
	if len(f) == 0 {
		return nil
	}
	return mul(f, poly{new(big.Rat).Inv(f[len(f)-1])})
}

// divisor returns the monic greatest common divisor.
func divisor(f, g poly) poly {
	for len(g) > 0 {
		f, g = g, monic(remainder(f, g))
	}
	return monic(f)
}

// fraction returns n/d.
func fraction(n, d int) api.Rat {
	a, _ := rational.Make(bigint.Of(n), bigint.Of(d))
	return a
}

// whole returns the polynomial with small integers as coefficients, the constant one first.
func whole(l ...int) api.Poly {
	f := make(api.Poly, len(l))
	for i, a := range l {
		f[i] = rational.Of(a)
	}
	return f
}

// integral returns the polynomial over the integers with small coefficients.
func integral(l ...int) api.ZPoly {
	f := make(api.ZPoly, len(l))
	for i, a := range l {
		f[i] = bigint.Of(a)
	}
	return f
}

// randomInt returns an integer of up to n digits, sometimes with leading zeros or a minus sign of zero.
func randomInt(r *rand.Rand, n int) api.Int {
	mag := make([]uint32, r.Intn(n+1))
	for i := range mag {
		switch r.Intn(3) {
		case 0:
			mag[i] = uint32(r.Intn(7))
		case 1:
			mag[i] = math.MaxUint32
		default:
			mag[i] = r.Uint32()
		}
	}
	return api.Int{Neg: r.Intn(2) == 0, Mag: mag}
}

// randomRat returns a fraction, often not in lowest terms, and sometimes with the denominator 0.
func randomRat(r *rand.Rand, n int) api.Rat {
	c := randomInt(r, 1)
	switch r.Intn(4) {
	case 0:
		return api.Rat{Num: randomInt(r, n), Den: bigint.Of(1)}
	case 1:
		return api.Rat{Num: bigint.Mul(c, randomInt(r, n)), Den: bigint.Mul(c, randomInt(r, n))}
	}
	return api.Rat{Num: bigint.Of(r.Intn(9) - 4), Den: bigint.Of(r.Intn(9) - 4)}
}

// randomPoly returns a polynomial of up to n coefficients, sometimes with leading zeros.
func randomPoly(r *rand.Rand, n, digits int) api.Poly {
	f := make(api.Poly, r.Intn(n+1))
	for i := range f {
		f[i] = randomRat(r, digits)
	}
	switch r.Intn(6) {
	case 0:
		return append(f, api.Rat{Num: minusZero, Den: bigint.Of(3)}, api.Rat{})
	case 1:
		return append(f, api.Rat{Num: bigint.Of(5), Den: minusZero})
	}
	return f
}

// normalized reports whether an integer has no leading zeros and is not a negative zero.
func normalized(a api.Int) bool {
	n := len(a.Mag)
	return n == 0 && !a.Neg || n > 0 && a.Mag[n-1] != 0
}

// check reports a polynomial that is not normalized or not the one expected.
func check(t *testing.T, what string, got api.Poly, want poly) {
	t.Helper()
	if len(got) != len(want) {
		t.Fatalf("%s = %v, want %v", what, got, want)
	}
	for i := range got {
		checkRat(t, what, got[i], want[i])
	}
}

// checkRat reports a fraction that is not normalized or not the one expected.
func checkRat(t *testing.T, what string, got api.Rat, want *big.Rat) {
	t.Helper()
	if !normalized(got.Num) || !normalized(got.Den) || toInt(got.Num).Cmp(want.Num()) != 0 || toInt(got.Den).Cmp(want.Denom()) != 0 {
		t.Fatalf("%s = %v, want %v", what, got, want)
	}
}

// overwrite writes into all digits of an integer, up to the capacity.
func overwrite(a api.Int) {
	for i := range a.Mag[:cap(a.Mag)] {
		a.Mag[:cap(a.Mag)][i] = 0xDEADBEEF
	}
}

// overwriteAll writes into all coefficients, up to the capacity.
func overwriteAll(f []api.Rat) {
	f = f[:cap(f)]
	for i := range f {
		overwrite(f[i].Num)
		overwrite(f[i].Den)
		f[i] = api.Rat{Num: api.Int{Mag: []uint32{7, 7, 7, 7, 7, 7, 7}}}
	}
}

// text returns what a list of fractions consists of, whatever their values.
func text(f []api.Rat) string {
	var b strings.Builder
	for _, a := range f {
		for _, n := range []api.Int{a.Num, a.Den} {
			if n.Neg {
				b.WriteString("-")
			}
			for _, d := range n.Mag {
				b.WriteString(big.NewInt(int64(d)).String() + ",")
			}
			b.WriteString(";")
		}
	}
	return b.String()
}
