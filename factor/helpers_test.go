package factor_test

import (
	"math/big"
	"math/rand"
	"slices"
	"strings"
	"testing"

	"halfplane/api"
	"halfplane/bigint"
	"halfplane/zpoly"
)

var minusZero = api.Int{Neg: true, Mag: []uint32{0, 0}}

// toInt reads an integer as its digits denote it.
func toInt(a api.Int) *big.Int {
	z := new(big.Int)
	for _, d := range slices.Backward(a.Mag) {
		z.Lsh(z, 32).Or(z, big.NewInt(int64(d)))
	}
	if a.Neg {
		z.Neg(z)
	}
	return z
}

// toPoly reads the coefficients of a polynomial.
func toPoly(f api.ZPoly) []*big.Int {
	g := make([]*big.Int, len(f))
	for i, a := range f {
		g[i] = toInt(a)
	}
	return g
}

// parse returns the polynomial of a text that is known to be right.
func parse(t *testing.T, s string) api.ZPoly {
	t.Helper()
	f, e := zpoly.Parse(s)
	if e != api.OK {
		t.Fatal(s, e)
	}
	return f
}

// of returns the polynomial with small coefficients, the constant one first.
func of(l ...int) api.ZPoly {
	f := make(api.ZPoly, len(l))
	for i, a := range l {
		f[i] = bigint.Of(a)
	}
	return f
}

// binomial returns x^n + c.
func binomial(n, c int) api.ZPoly {
	return zpoly.Add(append(make(api.ZPoly, n), bigint.Of(1)), of(c))
}

// product returns the product of polynomials.
func product(l ...api.ZPoly) api.ZPoly {
	f := of(1)
	for _, g := range l {
		f = zpoly.Mul(f, g)
	}
	return f
}

// rootsOfSquares returns the polynomial whose roots are the sums of the roots of
// the numbers, with all signs (Swinnerton-Dyer).
func rootsOfSquares(numbers ...int) api.ZPoly {
	x := of(0, 1)
	f := x
	for _, n := range numbers {
		// a + b y is the value of f at x + y, where y^2 = n.
		var a, b api.ZPoly
		for _, c := range slices.Backward(f) {
			a, b = zpoly.Add(zpoly.Add(zpoly.Mul(a, x), zpoly.Scale(b, bigint.Of(n))), api.ZPoly{c}), zpoly.Add(zpoly.Mul(b, x), a)
		}
		f = zpoly.Sub(zpoly.Mul(a, a), zpoly.Scale(zpoly.Mul(b, b), bigint.Of(n)))
	}
	return f
}

// randomPoly returns a polynomial of degree n whose coefficients have so many digits.
func randomPoly(r *rand.Rand, n, digits int) api.ZPoly {
	f := make(api.ZPoly, n+1)
	for i := range f {
		f[i] = api.Int{Neg: r.Intn(2) == 0, Mag: make([]uint32, digits)}
		for j := range f[i].Mag {
			f[i].Mag[j] = r.Uint32() | 1
		}
	}
	return f
}

// smallPoly returns a polynomial of degree n with coefficients from -m to m.
func smallPoly(r *rand.Rand, n, m int) api.ZPoly {
	f := make(api.ZPoly, n+1)
	for i := range f {
		f[i] = bigint.Of(r.Intn(2*m+1) - m)
	}
	f[n] = bigint.Of(1 + r.Intn(m))
	return f
}

// unusual returns f with leading zeros and other digits that have no effect.
func unusual(f api.ZPoly) api.ZPoly {
	g := zpoly.Normal(f)
	for i := range g {
		g[i].Mag = append(g[i].Mag, 0, 0)
	}
	return append(g, minusZero, api.Int{})
}

// isReducible reports whether a polynomial of degree 2 to 5 has a factor of degree 1
// or 2, which is found by its values at -1, 0 and 1 (Kronecker).
func isReducible(f api.ZPoly) bool {
	var values [3][]int
	for i := range values {
		x, _ := bigint.Small(zpoly.Eval(f, api.Rat{Num: bigint.Of(i - 1), Den: bigint.Of(1)}).Num)
		if x == 0 {
			return true
		}
		for d := -max(x, -x); d <= max(x, -x); d++ {
			if d != 0 && x%d == 0 {
				values[i] = append(values[i], d)
			}
		}
	}
	for _, left := range values[0] {
		for _, middle := range values[1] {
			for _, right := range values[2] {
				if (left+right)%2 != 0 {
					continue
				}
				g := of(middle, (right-left)/2, (right+left)/2-middle)
				if zpoly.Degree(g) < 1 || zpoly.Degree(g) == zpoly.Degree(f) {
					continue
				}
				if _, _, e := zpoly.PseudoDiv(f, g); e == api.OK && isMultiple(f, g) {
					return true
				}
			}
		}
	}
	return false
}

// isMultiple reports whether g divides f over the rational numbers.
func isMultiple(f, g api.ZPoly) bool {
	_, r, _ := zpoly.PseudoDiv(f, g)
	return len(r) == 0
}

// precedes reports whether f precedes g in the order of polynomials over the integers.
func precedes(f, g api.ZPoly) bool {
	if len(f) != len(g) {
		return len(f) < len(g)
	}
	for i, c := range slices.Backward(f) {
		if order := toInt(c).Cmp(toInt(g[i])); order != 0 {
			return order < 0
		}
	}
	return false
}

// normalized reports whether an integer has no leading zeros and is not a negative zero.
func normalized(a api.Int) bool {
	n := len(a.Mag)
	return n == 0 && !a.Neg || n > 0 && a.Mag[n-1] != 0
}

func isNormal(f api.ZPoly) bool {
	return !slices.ContainsFunc(f, func(a api.Int) bool { return !normalized(a) }) && (len(f) == 0 || len(f[len(f)-1].Mag) > 0)
}

// text returns what polynomials consist of, whatever their values.
func text(l ...api.ZPoly) string {
	var b strings.Builder
	for _, f := range l {
		for _, a := range f {
			if a.Neg {
				b.WriteString("-")
			}
			for _, d := range a.Mag {
				b.WriteString(big.NewInt(int64(d)).String() + ",")
			}
			b.WriteString(";")
		}
		b.WriteString("\n")
	}
	return b.String()
}

// overwrite writes into all digits and all coefficients, up to the capacity.
func overwrite(f api.ZPoly) {
	f = f[:cap(f)]
	for i := range f {
		for j := range f[i].Mag[:cap(f[i].Mag)] {
			f[i].Mag[:cap(f[i].Mag)][j] = 0xDEADBEEF
		}
		f[i] = api.Int{Mag: []uint32{7, 7, 7, 7, 7}}
	}
}

// formatFactors returns a factorization as text.
func formatFactors(c api.Int, l []api.Factor) string {
	s := bigint.Format(c)
	for _, x := range l {
		s += strings.Repeat(" ("+zpoly.Format(x.Poly)+")", x.Exp)
	}
	return s
}

// greatest returns an integer of n binary digits, all of which are 1.
func greatest(n int) api.Int {
	a := new(big.Int).Sub(new(big.Int).Lsh(big.NewInt(1), uint(n)), big.NewInt(1))
	z := api.Int{}
	for ; a.Sign() > 0; a.Rsh(a, 32) {
		z.Mag = append(z.Mag, uint32(new(big.Int).And(a, big.NewInt(1<<32-1)).Uint64()))
	}
	return z
}
