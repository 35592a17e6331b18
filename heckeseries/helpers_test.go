package heckeseries_test

import (
	"math"
	"math/big"
	"math/rand"
	"reflect"
	"slices"
	"testing"

	"halfplane/api"
)

// A laurent is a series as a map from exponents to coefficients, with its precision.
type laurent struct {
	coef map[int]*big.Rat
	prec int
}

// at returns the coefficient of an exponent below the precision.
func (f laurent) at(n int) *big.Rat {
	if c, ok := f.coef[n]; ok {
		return c
	}
	return new(big.Rat)
}

// order returns the order, or the precision of an empty series.
func (f laurent) order() int {
	least := f.prec
	for n, c := range f.coef {
		if n < least && c.Sign() != 0 {
			least = n
		}
	}
	return least
}

// known returns a list of the exponents from the order to the precision.
func (f laurent) known() []int {
	var l []int
	for n := f.order(); n < f.prec; n++ {
		l = append(l, n)
	}
	return l
}

// from returns the series with the given precision whose coefficients are a function of
// the exponent, from an exponent on.
func from(start, prec int, coef func(n int) *big.Rat) laurent {
	f := laurent{coef: map[int]*big.Rat{}, prec: prec}
	for n := start; n < prec; n++ {
		f.coef[n] = coef(n)
	}
	return f
}

// toBig reads an integer as its digits denote it.
func toBig(a api.Int) *big.Int {
	z := new(big.Int)
	for _, d := range slices.Backward(a.Mag) {
		z.Lsh(z, 32).Or(z, big.NewInt(int64(d)))
	}
	if a.Neg {
		z.Neg(z)
	}
	return z
}

// fromBig returns an integer, normalized.
func fromBig(z *big.Int) api.Int {
	var mag []uint32
	rest := new(big.Int).Abs(z)
	for rest.Sign() != 0 {
		mag = append(mag, uint32(rest.Uint64()))
		rest.Rsh(rest, 32)
	}
	return api.Int{Neg: z.Sign() < 0, Mag: mag}
}

// toRat reads a fraction by its value.
func toRat(a api.Rat) *big.Rat {
	den := toBig(a.Den)
	if den.Sign() == 0 {
		return new(big.Rat)
	}
	return new(big.Rat).SetFrac(toBig(a.Num), den)
}

// fromRat returns a fraction, normalized.
func fromRat(x *big.Rat) api.Rat {
	return api.Rat{Num: fromBig(x.Num()), Den: fromBig(x.Denom())}
}

// fraction returns n/d, normalized.
func fraction(n, d int64) api.Rat {
	return fromRat(big.NewRat(n, d))
}

// read returns the series that an argument denotes.
func read(a api.Series) laurent {
	return from(a.From, a.From+len(a.Coef), func(n int) *big.Rat { return toRat(a.Coef[n-a.From]) })
}

// write returns a series as a result, with the limits of results.
func write(f laurent) (api.Series, api.Errno) {
	f = laurent{coef: f.coef, prec: min(f.prec, api.MaxPrec)}
	a := api.Series{From: f.order()}
	for _, n := range f.known() {
		a.Coef = append(a.Coef, fromRat(f.at(n)))
	}
	if a.From < -api.MaxPole {
		return api.Series{}, api.ErrRange
	}
	return a, api.OK
}

// alike reports whether results are equal; an empty list is equal to nil.
func alike(a, b api.Series) bool {
	return a.From == b.From && len(a.Coef) == len(b.Coef) && (len(a.Coef) == 0 || sameRats(a.Coef, b.Coef))
}

// sameRats reports whether two lists of normalized fractions are equal.
func sameRats(x, y []api.Rat) bool {
	return slices.EqualFunc(x, y, func(a, b api.Rat) bool { return sameInt(a.Num, b.Num) && sameInt(a.Den, b.Den) })
}

// sameInt reports whether two normalized integers are equal.
func sameInt(a, b api.Int) bool {
	return a.Neg == b.Neg && slices.Equal(a.Mag, b.Mag)
}

// expect compares a result with the series that is wanted.
func expect(t *testing.T, name string, got api.Series, e api.Errno, want laurent) {
	t.Helper()
	a, wanted := write(want)
	if e != wanted || !alike(got, a) {
		t.Errorf("%s: %v, %d; want %v, %d", name, show(got), e, show(a), wanted)
	}
}

// expectError checks that a result is an error with a zero value beside it.
func expectError(t *testing.T, name string, got any, e, want api.Errno) {
	t.Helper()
	if e != want || !reflect.ValueOf(got).IsZero() {
		t.Errorf("%s: %v, %d; want error %d", name, got, e, want)
	}
}

// show returns a series in a form that is read easily.
func show(a api.Series) []any {
	l := []any{a.From}
	for _, c := range a.Coef {
		l = append(l, toRat(c).RatString())
	}
	return l
}

// of returns the series with integer coefficients from an exponent on.
func of(start int, coef ...int64) api.Series {
	a := api.Series{From: start}
	for _, c := range coef {
		a.Coef = append(a.Coef, fraction(c, 1))
	}
	return a
}

// random returns a series with at most size coefficients, which are written in various
// ways.
func random(r *rand.Rand, size int) api.Series {
	a := api.Series{From: r.Intn(60) - 30}
	for range r.Intn(size + 1) {
		a.Coef = append(a.Coef, randomRat(r))
	}
	return a
}

// randomRat returns a fraction, often 0, often an integer, and not always in lowest terms.
func randomRat(r *rand.Rand) api.Rat {
	small := func(n int) api.Int {
		return api.Int{Neg: r.Intn(2) == 0, Mag: []uint32{uint32(r.Intn(n)), 0}}
	}
	switch r.Intn(6) {
	case 0:
		return api.Rat{}
	case 1:
		return api.Rat{Num: small(100), Den: api.Int{Mag: []uint32{0}}}
	case 2:
		return api.Rat{Num: small(7), Den: small(7)}
	case 3:
		return api.Rat{Num: api.Int{Mag: []uint32{r.Uint32(), r.Uint32(), r.Uint32()}}, Den: small(30)}
	}
	return api.Rat{Num: small(50), Den: api.Int{Mag: []uint32{1}}}
}

// invalid returns series that are not valid.
func invalid() []api.Series {
	return []api.Series{
		of(-101), of(-101, 1, 2), of(1001), of(1000, 1), of(995, 1, 2, 3, 4, 5, 6),
		of(-100, make([]int64, 1101)...), of(math.MinInt, 1), of(math.MaxInt, 1), of(math.MaxInt), of(math.MinInt),
	}
}

// valid returns series at the limits of those that are valid.
func valid() []api.Series {
	return []api.Series{
		{}, of(0, 0), of(0, 1), of(-100), of(-100, 1), of(1000), of(999, 1), of(994, 0, 0, 3, 4, 5, 6),
		of(-100, make([]int64, 1100)...), of(-3, 0, 0, 0), of(5, 0, 0, -2, 0),
	}
}

// isFundamental reports whether d is 1 or a fundamental discriminant, by the definition.
func isFundamental(d int) bool {
	squarefree := func(n int) bool {
		for p := 2; p*p <= max(n, -n); p++ {
			if n%(p*p) == 0 {
				return false
			}
		}
		return n != 0
	}
	if remainder(d, 4) == 1 {
		return squarefree(d)
	}
	return d%4 == 0 && remainder(d/4, 4) >= 2 && squarefree(d/4)
}

// symbol returns the Kronecker symbol (d/n) of a fundamental discriminant or 1.
func symbol(d, n int) int64 {
	switch {
	case n == 0 && d == 1:
		return 1
	case n == 0:
		return 0
	case n < 0 && d < 0:
		return -symbol(d, -n)
	case n < 0:
		return symbol(d, -n)
	}
	value := int64(1)
	for p := 2; n > 1; p++ {
		for ; n%p == 0; n /= p {
			value *= primeSymbol(d, p)
		}
	}
	return value
}

// primeSymbol returns the symbol (d/p) of a prime p.
func primeSymbol(d, p int) int64 {
	switch {
	case d%p == 0:
		return 0
	case p == 2 && remainder(d, 8) != 1:
		return -1
	case p == 2:
		return 1
	}
	for x := range p {
		if (x*x-d)%p == 0 {
			return 1
		}
	}
	return -1
}

// copied returns a series in memory of its own.
func copied(a api.Series) api.Series {
	b := api.Series{From: a.From}
	for _, c := range a.Coef {
		c.Num.Mag = append([]uint32{}, c.Num.Mag...)
		c.Den.Mag = append([]uint32{}, c.Den.Mag...)
		b.Coef = append(b.Coef, c)
	}
	return b
}

// spoil changes all memory of a series.
func spoil(a api.Series) {
	for i := range a.Coef {
		for _, mag := range [][]uint32{a.Coef[i].Num.Mag, a.Coef[i].Den.Mag} {
			mag = mag[:cap(mag)]
			for j := range mag {
				mag[j] = 77
			}
		}
		a.Coef[i] = api.Rat{}
	}
}

// remainder returns the remainder of n modulo m that is not negative.
func remainder(n, m int) int {
	return ((n % m) + m) % m
}
