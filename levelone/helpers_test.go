package levelone_test

import (
	"math"
	"math/big"
	"math/rand"
	"reflect"
	"slices"
	"testing"

	"halfplane/api"
)

// A laurent is a series as a map from exponents to coefficients, with its precision.
type laurent struct {
	coef map[int]*big.Rat
	prec int
}

// at returns the coefficient of an exponent below the precision.
func (f laurent) at(n int) *big.Rat {
	if c, ok := f.coef[n]; ok {
		return c
	}
	return new(big.Rat)
}

// order returns the order, or the precision of an empty series.
func (f laurent) order() int {
	least := f.prec
	for n, c := range f.coef {
		if n < least && c.Sign() != 0 {
			least = n
		}
	}
	return least
}

// known returns a list of the exponents from the order to the precision.
func (f laurent) known() []int {
	var l []int
	for n := f.order(); n < f.prec; n++ {
		l = append(l, n)
	}
	return l
}

// from returns the series with the given precision whose coefficients are a function of
// the exponent, from an exponent on.
func from(start, prec int, coef func(n int) *big.Rat) laurent {
	f := laurent{coef: map[int]*big.Rat{}, prec: prec}
	for n := start; n < prec; n++ {
		f.coef[n] = coef(n)
	}
	return f
}

// toBig reads an integer as its digits denote it.
func toBig(a api.Int) *big.Int {
	z := new(big.Int)
	for _, d := range slices.Backward(a.Mag) {
		z.Lsh(z, 32).Or(z, big.NewInt(int64(d)))
	}
	if a.Neg {
		z.Neg(z)
	}
	return z
}

// fromBig returns an integer, normalized.
func fromBig(z *big.Int) api.Int {
	var mag []uint32
	rest := new(big.Int).Abs(z)
	for rest.Sign() != 0 {
		mag = append(mag, uint32(rest.Uint64()))
		rest.Rsh(rest, 32)
	}
	return api.Int{Neg: z.Sign() < 0, Mag: mag}
}

// toRat reads a fraction by its value.
func toRat(a api.Rat) *big.Rat {
	den := toBig(a.Den)
	if den.Sign() == 0 {
		return new(big.Rat)
	}
	return new(big.Rat).SetFrac(toBig(a.Num), den)
}

// fromRat returns a fraction, normalized.
func fromRat(x *big.Rat) api.Rat {
	return api.Rat{Num: fromBig(x.Num()), Den: fromBig(x.Denom())}
}

// fraction returns n/d, normalized.
func fraction(n, d int64) api.Rat {
	return fromRat(big.NewRat(n, d))
}

// read returns the series that an argument denotes.
func read(a api.Series) laurent {
	return from(a.From, a.From+len(a.Coef), func(n int) *big.Rat { return toRat(a.Coef[n-a.From]) })
}

// write returns a series as a result, with the limits of results.
func write(f laurent) (api.Series, api.Errno) {
	f = laurent{coef: f.coef, prec: min(f.prec, api.MaxPrec)}
	a := api.Series{From: f.order()}
	for _, n := range f.known() {
		a.Coef = append(a.Coef, fromRat(f.at(n)))
	}
	if a.From < -api.MaxPole {
		return api.Series{}, api.ErrRange
	}
	return a, api.OK
}

// alike reports whether results are equal; an empty list is equal to nil.
func alike(a, b api.Series) bool {
	return a.From == b.From && len(a.Coef) == len(b.Coef) && (len(a.Coef) == 0 || sameRats(a.Coef, b.Coef))
}

// sameRats reports whether two lists of normalized fractions are equal.
func sameRats(x, y []api.Rat) bool {
	return slices.EqualFunc(x, y, func(a, b api.Rat) bool { return sameInt(a.Num, b.Num) && sameInt(a.Den, b.Den) })
}

// sameInt reports whether two normalized integers are equal.
func sameInt(a, b api.Int) bool {
	return a.Neg == b.Neg && slices.Equal(a.Mag, b.Mag)
}

// expect compares a result with the series that is wanted.
func expect(t *testing.T, name string, got api.Series, e api.Errno, want laurent) {
	t.Helper()
	a, wanted := write(want)
	if e != wanted || !alike(got, a) {
		t.Errorf("%s: %v, %d; want %v, %d", name, show(got), e, show(a), wanted)
	}
}

// expectError checks that a result is an error with a zero value beside it.
func expectError(t *testing.T, name string, got any, e, want api.Errno) {
	t.Helper()
	if e != want || !reflect.ValueOf(got).IsZero() {
		t.Errorf("%s: %v, %d; want error %d", name, got, e, want)
	}
}

// show returns a series in a form that is read easily.
func show(a api.Series) []any {
	l := []any{a.From}
	for _, c := range a.Coef {
		l = append(l, toRat(c).RatString())
	}
	return l
}

// of returns the series with integer coefficients from an exponent on.
func of(start int, coef ...int64) api.Series {
	a := api.Series{From: start}
	for _, c := range coef {
		a.Coef = append(a.Coef, fraction(c, 1))
	}
	return a
}

// randomRat returns a fraction, often 0, often an integer, and not always in lowest terms.
func randomRat(r *rand.Rand) api.Rat {
	small := func(n int) api.Int {
		return api.Int{Neg: r.Intn(2) == 0, Mag: []uint32{uint32(r.Intn(n)), 0}}
	}
	switch r.Intn(6) {
	case 0:
		return api.Rat{}
	case 1:
		return api.Rat{Num: small(100), Den: api.Int{Mag: []uint32{0}}}
	case 2:
		return api.Rat{Num: small(7), Den: small(7)}
	case 3:
		return api.Rat{Num: api.Int{Mag: []uint32{r.Uint32(), r.Uint32(), r.Uint32()}}, Den: small(30)}
	}
	return api.Rat{Num: small(50), Den: api.Int{Mag: []uint32{1}}}
}

// invalid returns series that are not valid.
func invalid() []api.Series {
	return []api.Series{
		of(-101), of(-101, 1, 2), of(1001), of(1000, 1), of(995, 1, 2, 3, 4, 5, 6),
		of(-100, make([]int64, 1101)...), of(math.MinInt, 1), of(math.MaxInt, 1), of(math.MaxInt), of(math.MinInt),
	}
}

// copied returns a series in memory of its own.
func copied(a api.Series) api.Series {
	b := api.Series{From: a.From}
	for _, c := range a.Coef {
		c.Num.Mag = append([]uint32{}, c.Num.Mag...)
		c.Den.Mag = append([]uint32{}, c.Den.Mag...)
		b.Coef = append(b.Coef, c)
	}
	return b
}

// spoil changes all memory of a series.
func spoil(a api.Series) {
	for i := range a.Coef {
		for _, mag := range [][]uint32{a.Coef[i].Num.Mag, a.Coef[i].Den.Mag} {
			mag = mag[:cap(mag)]
			for j := range mag {
				mag[j] = 77
			}
		}
		a.Coef[i] = api.Rat{}
	}
}

// times returns the product, by the definition.
func times(f, g laurent) laurent {
	h := laurent{coef: map[int]*big.Rat{}, prec: min(f.prec+g.order(), g.prec+f.order())}
	for _, m := range f.known() {
		for _, n := range g.known() {
			if m+n < h.prec {
				h.coef[m+n] = new(big.Rat).Add(h.at(m+n), new(big.Rat).Mul(f.at(m), g.at(n)))
			}
		}
	}
	return h
}

// reciprocal returns the inverse of a series that is not empty, by solving for one
// coefficient after another.
func reciprocal(f laurent) laurent {
	o := f.order()
	g := laurent{coef: map[int]*big.Rat{}, prec: f.prec - 2*o}
	for k := range f.prec - o {
		rest := new(big.Rat)
		if k == 0 {
			rest.SetInt64(1)
		}
		for i := 1; i <= k; i++ {
			rest.Sub(rest, new(big.Rat).Mul(f.at(o+i), g.at(k-i-o)))
		}
		g.coef[k-o] = rest.Quo(rest, f.at(o))
	}
	return g
}

// sigma returns the sum of d^k over the divisors d of n.
func sigma(k, n int) *big.Int {
	sum := new(big.Int)
	for d := 1; d <= n; d++ {
		if n%d == 0 {
			sum.Add(sum, new(big.Int).Exp(big.NewInt(int64(d)), big.NewInt(int64(k)), nil))
		}
	}
	return sum
}

// eisenstein returns E4 or E6.
func eisenstein(k, prec int) laurent {
	factor := map[int]int64{4: 240, 6: -504}[k]
	return from(0, prec, func(n int) *big.Rat {
		if n == 0 {
			return big.NewRat(1, 1)
		}
		return new(big.Rat).SetInt(new(big.Int).Mul(big.NewInt(factor), sigma(k-1, n)))
	})
}

// discriminant returns q times the product of all (1 - q^n)^24, factor by factor.
func discriminant(prec int) laurent {
	l := make([]*big.Int, max(prec, 2))
	for i := range l {
		l[i] = new(big.Int)
	}
	l[1].SetInt64(1)
	for n := 1; n < prec; n++ {
		for range 24 {
			for i := prec - 1; i > n; i-- {
				l[i].Sub(l[i], l[i-n])
			}
		}
	}
	return from(1, prec, func(n int) *big.Rat { return new(big.Rat).SetInt(l[n]) })
}

// invariant returns j with a precision from 0 on.
func invariant(prec int) laurent {
	e := eisenstein(4, prec+1)
	return times(times(times(e, e), e), reciprocal(discriminant(prec+2)))
}

// ofJ returns f(j), term by term.
func ofJ(f []*big.Rat, prec int) laurent {
	j := invariant(max(prec, 0) + len(f))
	sum := laurent{coef: map[int]*big.Rat{}, prec: prec}
	power := from(0, max(prec, 0)+2*len(f)+1, func(n int) *big.Rat { return big.NewRat(int64(1-min(n, 1)), 1) })
	for _, c := range f {
		for _, n := range power.known() {
			if n < prec {
				sum.coef[n] = new(big.Rat).Add(sum.at(n), new(big.Rat).Mul(c, power.at(n)))
			}
		}
		power = times(power, j)
	}
	return sum
}

// toRats reads the coefficients of a polynomial.
func toRats(f api.Poly) []*big.Rat {
	var l []*big.Rat
	for _, c := range f {
		l = append(l, toRat(c))
	}
	return l
}

// cut returns a series with at most a precision.
func cut(f laurent, prec int) laurent {
	return laurent{coef: f.coef, prec: min(f.prec, prec)}
}
