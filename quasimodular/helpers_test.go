package quasimodular_test

import (
	"math"
	"math/big"
	"math/rand"
	"reflect"
	"slices"
	"testing"

	"halfplane/api"
)

// A laurent is a series as a map from exponents to coefficients, with its precision.
type laurent struct {
	coef map[int]*big.Rat
	prec int
}

// at returns the coefficient of an exponent below the precision.
func (f laurent) at(n int) *big.Rat {
	if c, ok := f.coef[n]; ok {
		return c
	}
	return new(big.Rat)
}

// order returns the order, or the precision of an empty series.
func (f laurent) order() int {
	least := f.prec
	for n, c := range f.coef {
		if n < least && c.Sign() != 0 {
			least = n
		}
	}
	return least
}

// known returns a list of the exponents from the order to the precision.
func (f laurent) known() []int {
	var l []int
	for n := f.order(); n < f.prec; n++ {
		l = append(l, n)
	}
	return l
}

// from returns the series with the given precision whose coefficients are a function of
// the exponent, from an exponent on.
func from(start, prec int, coef func(n int) *big.Rat) laurent {
	f := laurent{coef: map[int]*big.Rat{}, prec: prec}
	for n := start; n < prec; n++ {
		f.coef[n] = coef(n)
	}
	return f
}

// toBig reads an integer as its digits denote it.
func toBig(a api.Int) *big.Int {
	z := new(big.Int)
	for _, d := range slices.Backward(a.Mag) {
		z.Lsh(z, 32).Or(z, big.NewInt(int64(d)))
	}
	if a.Neg {
		z.Neg(z)
	}
	return z
}

// fromBig returns an integer, normalized.
func fromBig(z *big.Int) api.Int {
	var mag []uint32
	rest := new(big.Int).Abs(z)
	for rest.Sign() != 0 {
		mag = append(mag, uint32(rest.Uint64()))
		rest.Rsh(rest, 32)
	}
	return api.Int{Neg: z.Sign() < 0, Mag: mag}
}

// toRat reads a fraction by its value.
func toRat(a api.Rat) *big.Rat {
	den := toBig(a.Den)
	if den.Sign() == 0 {
		return new(big.Rat)
	}
	return new(big.Rat).SetFrac(toBig(a.Num), den)
}

// fromRat returns a fraction, normalized.
func fromRat(x *big.Rat) api.Rat {
	return api.Rat{Num: fromBig(x.Num()), Den: fromBig(x.Denom())}
}

// fraction returns n/d, normalized.
func fraction(n, d int64) api.Rat {
	return fromRat(big.NewRat(n, d))
}

// read returns the series that an argument denotes.
func read(a api.Series) laurent {
	return from(a.From, a.From+len(a.Coef), func(n int) *big.Rat { return toRat(a.Coef[n-a.From]) })
}

// write returns a series as a result, with the limits of results.
func write(f laurent) (api.Series, api.Errno) {
	f = laurent{coef: f.coef, prec: min(f.prec, api.MaxPrec)}
	a := api.Series{From: f.order()}
	for _, n := range f.known() {
		a.Coef = append(a.Coef, fromRat(f.at(n)))
	}
	if a.From < -api.MaxPole {
		return api.Series{}, api.ErrRange
	}
	return a, api.OK
}

// alike reports whether results are equal; an empty list is equal to nil.
func alike(a, b api.Series) bool {
	return a.From == b.From && len(a.Coef) == len(b.Coef) && (len(a.Coef) == 0 || sameRats(a.Coef, b.Coef))
}

// sameRats reports whether two lists of normalized fractions are equal.
func sameRats(x, y []api.Rat) bool {
	return slices.EqualFunc(x, y, func(a, b api.Rat) bool { return sameInt(a.Num, b.Num) && sameInt(a.Den, b.Den) })
}

// sameInt reports whether two normalized integers are equal.
func sameInt(a, b api.Int) bool {
	return a.Neg == b.Neg && slices.Equal(a.Mag, b.Mag)
}

// expect compares a result with the series that is wanted.
func expect(t *testing.T, name string, got api.Series, e api.Errno, want laurent) {
	t.Helper()
	a, wanted := write(want)
	if e != wanted || !alike(got, a) {
		t.Errorf("%s: %v, %d; want %v, %d", name, show(got), e, show(a), wanted)
	}
}

// expectError checks that a result is an error with a zero value beside it.
func expectError(t *testing.T, name string, got any, e, want api.Errno) {
	t.Helper()
	if e != want || !reflect.ValueOf(got).IsZero() {
		t.Errorf("%s: %v, %d; want error %d", name, got, e, want)
	}
}

// show returns a series in a form that is read easily.
func show(a api.Series) []any {
	l := []any{a.From}
	for _, c := range a.Coef {
		l = append(l, toRat(c).RatString())
	}
	return l
}

// of returns the series with integer coefficients from an exponent on.
func of(start int, coef ...int64) api.Series {
	a := api.Series{From: start}
	for _, c := range coef {
		a.Coef = append(a.Coef, fraction(c, 1))
	}
	return a
}

// random returns a series with at most size coefficients, which are written in various
// ways.
func random(r *rand.Rand, size int) api.Series {
	a := api.Series{From: r.Intn(60) - 30}
	for range r.Intn(size + 1) {
		a.Coef = append(a.Coef, randomRat(r))
	}
	return a
}

// randomRat returns a fraction, often 0, often an integer, and not always in lowest terms.
func randomRat(r *rand.Rand) api.Rat {
	small := func(n int) api.Int {
		return api.Int{Neg: r.Intn(2) == 0, Mag: []uint32{uint32(r.Intn(n)), 0}}
	}
	switch r.Intn(6) {
	case 0:
		return api.Rat{}
	case 1:
		return api.Rat{Num: small(100), Den: api.Int{Mag: []uint32{0}}}
	case 2:
		return api.Rat{Num: small(7), Den: small(7)}
	case 3:
		return api.Rat{Num: api.Int{Mag: []uint32{r.Uint32(), r.Uint32(), r.Uint32()}}, Den: small(30)}
	}
	return api.Rat{Num: small(50), Den: api.Int{Mag: []uint32{1}}}
}

// invalid returns series that are not valid.
func invalid() []api.Series {
	return []api.Series{
		of(-101), of(-101, 1, 2), of(1001), of(1000, 1), of(995, 1, 2, 3, 4, 5, 6),
		of(-100, make([]int64, 1101)...), of(math.MinInt, 1), of(math.MaxInt, 1), of(math.MaxInt), of(math.MinInt),
	}
}

// valid returns series at the limits of those that are valid.
func valid() []api.Series {
	return []api.Series{
		{}, of(0, 0), of(0, 1), of(-100), of(-100, 1), of(1000), of(999, 1), of(994, 0, 0, 3, 4, 5, 6),
		of(-100, make([]int64, 1100)...), of(-3, 0, 0, 0), of(5, 0, 0, -2, 0),
	}
}

// copied returns a series in memory of its own.
func copied(a api.Series) api.Series {
	b := api.Series{From: a.From}
	for _, c := range a.Coef {
		c.Num.Mag = append([]uint32{}, c.Num.Mag...)
		c.Den.Mag = append([]uint32{}, c.Den.Mag...)
		b.Coef = append(b.Coef, c)
	}
	return b
}

// spoil changes all memory of a series.
func spoil(a api.Series) {
	for i := range a.Coef {
		for _, mag := range [][]uint32{a.Coef[i].Num.Mag, a.Coef[i].Den.Mag} {
			mag = mag[:cap(mag)]
			for j := range mag {
				mag[j] = 77
			}
		}
		a.Coef[i] = api.Rat{}
	}
}

// times returns the product, by the definition.
func times(f, g laurent) laurent {
	h := laurent{coef: map[int]*big.Rat{}, prec: min(f.prec+g.order(), g.prec+f.order())}
	for _, m := range f.known() {
		for _, n := range g.known() {
			if m+n < h.prec {
				h.coef[m+n] = new(big.Rat).Add(h.at(m+n), new(big.Rat).Mul(f.at(m), g.at(n)))
			}
		}
	}
	return h
}

// sigma returns the sum of d^k over the divisors d of n.
func sigma(k, n int) *big.Int {
	sum := new(big.Int)
	for d := 1; d <= n; d++ {
		if n%d == 0 {
			sum.Add(sum, new(big.Int).Exp(big.NewInt(int64(d)), big.NewInt(int64(k)), nil))
		}
	}
	return sum
}

// eisenstein returns E2, E4 or E6.
func eisenstein(k, prec int) laurent {
	factor := map[int]int64{2: -24, 4: 240, 6: -504}[k]
	return from(0, prec, func(n int) *big.Rat {
		if n == 0 {
			return big.NewRat(1, 1)
		}
		return new(big.Rat).SetInt(new(big.Int).Mul(big.NewInt(factor), sigma(k-1, n)))
	})
}

// A polynomial contains the coefficients of E2^a E4^b E6^c.
type polynomial map[[3]int]*big.Rat

// add adds a term.
func (p polynomial) add(m [3]int, c *big.Rat) {
	if p[m] == nil {
		p[m] = new(big.Rat)
	}
	p[m] = new(big.Rat).Add(p[m], c)
}

// addAll adds c q.
func (p polynomial) addAll(c *big.Rat, q polynomial) {
	for m, x := range q {
		p.add(m, new(big.Rat).Mul(c, x))
	}
}

// multiplied returns p q.
func multiplied(p, q polynomial) polynomial {
	product := polynomial{}
	for m, x := range p {
		for n, y := range q {
			product.add([3]int{m[0] + n[0], m[1] + n[1], m[2] + n[2]}, new(big.Rat).Mul(x, y))
		}
	}
	return product
}

// derived returns D p, by the product rule for each factor of each term.
func derived(p polynomial) polynomial {
	ramanujan := [3]polynomial{
		{{2, 0, 0}: big.NewRat(1, 12), {0, 1, 0}: big.NewRat(-1, 12)},
		{{1, 1, 0}: big.NewRat(1, 3), {0, 0, 1}: big.NewRat(-1, 3)},
		{{1, 0, 1}: big.NewRat(1, 2), {0, 2, 0}: big.NewRat(-1, 2)},
	}
	sum := polynomial{}
	for m, c := range p {
		for i := range m {
			rest := m
			rest[i]--
			for range m[i] {
				sum.addAll(c, multiplied(ramanujan[i], polynomial{rest: big.NewRat(1, 1)}))
			}
		}
	}
	return sum
}

// readPoly returns the polynomial that an argument denotes.
func readPoly(p api.QuasiPoly) polynomial {
	sum := polynomial{}
	for _, t := range p {
		sum.add([3]int{t.A, t.B, t.C}, toRat(t.Coef))
	}
	return sum
}

// writePoly returns a polynomial as a result.
func writePoly(p polynomial) api.QuasiPoly {
	var l api.QuasiPoly
	for m, c := range p {
		if c.Sign() != 0 {
			l = append(l, api.QuasiTerm{A: m[0], B: m[1], C: m[2], Coef: fromRat(c)})
		}
	}
	slices.SortFunc(l, func(x, y api.QuasiTerm) int {
		return slices.Compare([]int{x.A, x.B, x.C}, []int{y.A, y.B, y.C})
	})
	return l
}

// samePoly reports whether two results are equal.
func samePoly(p, q api.QuasiPoly) bool {
	return slices.EqualFunc(p, q, func(x, y api.QuasiTerm) bool {
		return x.A == y.A && x.B == y.B && x.C == y.C && sameRats([]api.Rat{x.Coef}, []api.Rat{y.Coef})
	})
}

// expectPoly compares a result with the polynomial that is wanted.
func expectPoly(t *testing.T, name string, got api.QuasiPoly, e api.Errno, want polynomial) {
	t.Helper()
	if e != api.OK || !samePoly(got, writePoly(want)) {
		t.Errorf("%s: %v, %d; want %v", name, showPoly(got), e, showPoly(writePoly(want)))
	}
}

// showPoly returns a polynomial in a form that is read easily.
func showPoly(p api.QuasiPoly) []any {
	var l []any
	for _, t := range p {
		l = append(l, [3]int{t.A, t.B, t.C}, toRat(t.Coef).RatString())
	}
	return l
}

// term returns n/d E2^a E4^b E6^c.
func term(n, d int64, a, b, c int) api.QuasiTerm {
	return api.QuasiTerm{A: a, B: b, C: c, Coef: fraction(n, d)}
}

// randomPoly returns a polynomial with terms of weights up to k, in any order, some of
// them twice, and some with coefficients that are 0 or not in lowest terms.
func randomPoly(r *rand.Rand, size, k int) api.QuasiPoly {
	var p api.QuasiPoly
	for range r.Intn(size + 1) {
		a := r.Intn(k/2 + 1)
		b := r.Intn((k-2*a)/4 + 1)
		p = append(p, api.QuasiTerm{A: a, B: b, C: r.Intn((k-2*a-4*b)/6 + 1), Coef: randomRat(r)})
	}
	return p
}

// homogeneous returns a polynomial all terms of which have the weight k.
func homogeneous(r *rand.Rand, k int) api.QuasiPoly {
	var p api.QuasiPoly
	for a := 0; 2*a <= k; a++ {
		for b := 0; 2*a+4*b <= k; b++ {
			if c := (k - 2*a - 4*b) / 6; 2*a+4*b+6*c == k && r.Intn(3) > 0 {
				p = append(p, api.QuasiTerm{A: a, B: b, C: c, Coef: randomRat(r)})
			}
		}
	}
	r.Shuffle(len(p), func(i, j int) { p[i], p[j] = p[j], p[i] })
	return p
}

// invalidPolys returns polynomials that are not valid.
func invalidPolys() []api.QuasiPoly {
	long := make(api.QuasiPoly, 401)
	return []api.QuasiPoly{
		long, {term(1, 1, -1, 0, 0)}, {term(1, 1, 0, -1, 1)}, {term(1, 1, 4, 0, -1)}, {term(1, 1, 31, 0, 0)},
		{term(1, 1, 0, 16, 0)}, {term(1, 1, 0, 0, 11)}, {term(1, 1, 1, 0, 10)}, {term(1, 1, 10, 4, 5)}, {term(0, 1, 31, 0, 0)},
		{term(1, 1, 2, 3, 4), {}, term(0, 1, 0, 0, -5)}, {term(1, 1, math.MaxInt, 0, 0)}, {term(1, 1, 0, math.MinInt, 0)},
		{term(1, 1, 0, 1<<62, 0)}, {term(1, 1, 1<<63-1, 1, 0)}, {term(1, 1, 0, 0, 1<<61)}, {term(1, 1, 1<<62, 1<<62, 1<<62)},
	}
}
