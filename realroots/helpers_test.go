package realroots_test

import (
	"math/big"
	"math/rand"
	"slices"
	"strings"
	"testing"

	"halfplane/api"
	"halfplane/bigint"
	"halfplane/rational"
	"halfplane/zpoly"
)

var minusZero = api.Int{Neg: true, Mag: []uint32{0, 0}}

// toInt reads an integer as its digits denote it.
func toInt(a api.Int) *big.Int {
	z := new(big.Int)
	for _, d := range slices.Backward(a.Mag) {
		z.Lsh(z, 32).Or(z, big.NewInt(int64(d)))
	}
	if a.Neg {
		z.Neg(z)
	}
	return z
}

// toRat reads a fraction as it is to be read, with 0 as a denominator.
func toRat(a api.Rat) *big.Rat {
	d := toInt(a.Den)
	if d.Sign() == 0 {
		return new(big.Rat)
	}
	return new(big.Rat).SetFrac(toInt(a.Num), d)
}

// fromRat returns a fraction, normalized.
func fromRat(a *big.Rat) api.Rat {
	z, _ := rational.Parse(strings.TrimSuffix(a.String(), "/1"))
	return z
}

// parse returns the polynomial of a text that is known to be right.
func parse(t *testing.T, s string) api.ZPoly {
	t.Helper()
	f, e := zpoly.Parse(s)
	if e != api.OK {
		t.Fatal(s, e)
	}
	return f
}

// of returns the polynomial with small coefficients, the constant one first.
func of(l ...int) api.ZPoly {
	f := make(api.ZPoly, len(l))
	for i, a := range l {
		f[i] = bigint.Of(a)
	}
	return f
}

// interval returns the interval with the ends n/d.
func interval(lo, hi, d int) api.Interval {
	low, _ := rational.Make(bigint.Of(lo), bigint.Of(d))
	high, _ := rational.Make(bigint.Of(hi), bigint.Of(d))
	return api.Interval{Lo: low, Hi: high}
}

// unusual returns f with leading zeros and other digits that have no effect.
func unusual(f api.ZPoly) api.ZPoly {
	g := zpoly.Normal(f)
	for i := range g {
		g[i].Mag = append(g[i].Mag, 0, 0)
	}
	return append(g, minusZero, api.Int{})
}

// scaled returns an interval with the same ends, which are not in lowest terms.
func scaled(i api.Interval, c int) api.Interval {
	times := func(a api.Rat) api.Rat {
		return api.Rat{Num: bigint.Mul(a.Num, bigint.Of(c)), Den: bigint.Mul(a.Den, bigint.Of(c))}
	}
	return api.Interval{Lo: times(i.Lo), Hi: times(i.Hi)}
}

// number is sign * sqrt(square), so that numbers of this kind can be compared.
type number struct {
	sign   int
	square *big.Rat
}

// fraction returns n/d as a number.
func fraction(n, d int) number {
	a := big.NewRat(int64(n), int64(d))
	return number{a.Sign(), a.Mul(a, a)}
}

func (a number) cmp(b number) int {
	if a.sign != b.sign {
		return a.sign - b.sign
	}
	return a.sign * a.square.Cmp(b.square)
}

// known is a polynomial with its real roots, with their multiplicities.
type known struct {
	poly  api.ZPoly
	roots []number
}

// randomKnown returns a polynomial whose real roots are known.
func randomKnown(r *rand.Rand, n int) known {
	k := known{poly: of([]int{1, -1, 2, -6}[r.Intn(4)])}
	for range r.Intn(n + 1) {
		a, b := r.Intn(17)-8, 1+r.Intn(4)
		g, roots := of(-a, b), []number{fraction(a, b)}
		switch r.Intn(4) {
		case 0:
			g, roots = of(1+r.Intn(3), 1, 1), nil // no real roots
		case 1:
			m := 2 + r.Intn(30)
			if root := new(big.Int).Sqrt(big.NewInt(int64(m))).Int64(); int(root*root) == m {
				m++
			}
			square := big.NewRat(int64(m), int64(b*b))
			g, roots = of(-m, 0, b*b), []number{{-1, square}, {1, square}}
		}
		for range 1 + r.Intn(2)*r.Intn(3) {
			k.poly = zpoly.Mul(k.poly, g)
			k.roots = append(k.roots, roots...)
		}
	}
	return k
}

// end returns an end of an interval as a number.
func end(a api.Rat) number {
	x := toRat(a)
	return number{x.Sign(), new(big.Rat).Mul(x, x)}
}

// in returns the different roots in an interval.
func (k known) in(i api.Interval) []number {
	var l []number
	for _, a := range k.roots {
		if a.cmp(end(i.Lo)) > 0 && a.cmp(end(i.Hi)) <= 0 && !slices.ContainsFunc(l, func(b number) bool { return a.cmp(b) == 0 }) {
			l = append(l, a)
		}
	}
	return l
}

// signAt returns the sign of the polynomial at a number.
func (k known) signAt(a number) int {
	// Factors without real roots are positive.
	sign := bigint.Sign(k.poly[len(k.poly)-1])
	for _, b := range k.roots {
		order := a.cmp(b)
		if order == 0 {
			return 0
		}
		if order < 0 {
			sign = -sign
		}
	}
	return sign
}

// halves returns the halves of an interval.
func halves(i api.Interval) (left, right api.Interval) {
	m := new(big.Rat).Add(toRat(i.Lo), toRat(i.Hi))
	middle := fromRat(m.Mul(m, big.NewRat(1, 2)))
	return api.Interval{Lo: i.Lo, Hi: middle}, api.Interval{Lo: middle, Hi: i.Hi}
}

// isolate returns the isolating intervals in a node of the bisection tree.
func (k known) isolate(i api.Interval) []api.Interval {
	switch len(k.in(i)) {
	case 0:
		return nil
	case 1:
		return []api.Interval{i}
	}
	left, right := halves(i)
	return append(k.isolate(left), k.isolate(right)...)
}

// randomInterval returns an interval, sometimes with a root at an end.
func (k known) randomInterval(r *rand.Rand) api.Interval {
	c := 1 + r.Intn(5)
	i := interval(r.Intn(60)-30, r.Intn(60)-30, c)
	if len(k.roots) == 0 {
		return i
	}
	root := k.roots[r.Intn(len(k.roots))]
	if text := root.square.RatString(); r.Intn(2) == 0 && !strings.Contains(text, "/") {
		n := new(big.Int).Sqrt(root.square.Num())
		if new(big.Int).Mul(n, n).Cmp(root.square.Num()) == 0 {
			at := rational.Of(root.sign * int(n.Int64()))
			if r.Intn(2) == 0 {
				i.Lo = at
			} else {
				i.Hi = at
			}
		}
	}
	return i
}

// randomIsolating returns an interval, mostly one with one root.
func (k known) randomIsolating(r *rand.Rand) api.Interval {
	l := k.isolate(interval(-64, 64, 1))
	if len(l) == 0 || r.Intn(8) == 0 {
		return k.randomInterval(r)
	}
	i := l[r.Intn(len(l))]
	for range r.Intn(8) {
		left, right := halves(i)
		i = right
		if len(k.in(left)) == 1 {
			i = left
		}
	}
	return i
}

// normalized reports whether an integer has no leading zeros and is not a negative zero.
func normalized(a api.Int) bool {
	n := len(a.Mag)
	return n == 0 && !a.Neg || n > 0 && a.Mag[n-1] != 0
}

// isNormal reports whether the ends of an interval are normalized.
func isNormal(i api.Interval) bool {
	for _, a := range []api.Rat{i.Lo, i.Hi} {
		x := toRat(a)
		if !normalized(a.Num) || !normalized(a.Den) || toInt(a.Num).Cmp(x.Num()) != 0 || toInt(a.Den).Cmp(x.Denom()) != 0 {
			return false
		}
	}
	return true
}

func sameInterval(i, j api.Interval) bool {
	return toRat(i.Lo).Cmp(toRat(j.Lo)) == 0 && toRat(i.Hi).Cmp(toRat(j.Hi)) == 0
}

// format returns intervals as text.
func format(l ...api.Interval) string {
	var b strings.Builder
	for _, i := range l {
		b.WriteString("(" + rational.Format(i.Lo) + ", " + rational.Format(i.Hi) + "] ")
	}
	return b.String()
}

// greatest returns the integer of n binary digits, all of which are 1.
func greatest(n int) api.Int {
	a, _ := bigint.Pow(bigint.Of(2), n)
	return bigint.Sub(a, bigint.Of(1))
}
