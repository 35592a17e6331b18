package paths_test

import (
	"math/big"
	"math/rand"
	"reflect"
	"slices"
	"testing"

	"halfplane/api"
	"halfplane/manin"
	"halfplane/symbols"
)

const top = api.MaxEntry

var infinity, null = api.Cusp{P: 1, Q: 0}, api.Cusp{P: 0, Q: 1}

// noCusps are values that are no cusps, with the error of sl2.CheckCusp.
var noCusps = map[api.Cusp]api.Errno{
	{}: api.ErrForm, {P: -1, Q: 0}: api.ErrForm, {P: 2, Q: 0}: api.ErrForm, {P: 2, Q: 4}: api.ErrForm, {P: 0, Q: 2}: api.ErrForm,
	{P: 1, Q: -1}: api.ErrRange, {P: top + 1, Q: 1}: api.ErrRange, {P: 1, Q: top + 1}: api.ErrRange, {P: -1 << 63, Q: 1<<63 - 1}: api.ErrRange,
}

// spec names a space.
func spec(level, weight, disc int) api.Spec {
	return api.Spec{Level: level, Weight: weight, Disc: disc}
}

// modules returns the modules of spaces of all kinds.
func modules(t *testing.T) []*symbols.Module {
	t.Helper()
	var l []*symbols.Module
	for _, s := range []api.Spec{
		spec(1, 2, 1), spec(1, 4, 1), spec(1, 12, 1), spec(1, 24, 1), spec(2, 2, 1), spec(2, 8, 1), spec(3, 3, -3), spec(4, 5, -4), spec(4, 3, -4),
		spec(5, 4, 5), spec(6, 4, 1), spec(7, 3, -7), spec(8, 4, 8), spec(8, 3, -8), spec(9, 4, 1), spec(11, 2, 1), spec(12, 3, -3), spec(12, 2, 12),
		spec(12, 5, -4), spec(13, 2, 13), spec(15, 3, -15), spec(20, 3, -20), spec(24, 2, 24), spec(23, 3, -23), spec(30, 2, 1), spec(37, 2, 1), spec(120, 2, 60),
	} {
		m, e := symbols.New(s)
		if e != api.OK {
			t.Fatalf("New(%v): %d", s, e)
		}
		l = append(l, m)
	}
	return l
}

// gcd is Euclid's algorithm.
func gcd(a, b int) int {
	for b != 0 {
		a, b = b, a%b
	}
	return max(a, -a)
}

// chi returns the character of a space, for residues that are prime to the level.
func chi(s api.Spec, n int) int {
	value := 1
	for n = (n%s.Level + s.Level) % s.Level; n > 1; {
		p := 2
		for n%p != 0 {
			p++
		}
		n /= p
		value *= primeSymbol(s.Disc, p)
	}
	return value
}

// primeSymbol returns the symbol (d/p) of a prime p that does not divide d.
func primeSymbol(d, p int) int {
	if p == 2 {
		if r := (d%8 + 8) % 8; r == 1 || r == 7 {
			return 1
		}
		return -1
	}
	for x := range p {
		if (x*x-d)%p == 0 {
			return 1
		}
	}
	return -1
}

// times returns x y.
func times(x, y api.Mat2) api.Mat2 {
	return api.Mat2{A: x.A*y.A + x.B*y.C, B: x.A*y.B + x.B*y.D, C: x.C*y.A + x.D*y.C, D: x.C*y.B + x.D*y.D}
}

// imageOf returns the cusp to which g maps c.
func imageOf(g api.Mat2, c api.Cusp) api.Cusp {
	p, q := g.A*c.P+g.B*c.Q, g.C*c.P+g.D*c.Q
	d := gcd(p, q)
	if q < 0 || q == 0 && p < 0 {
		d = -d
	}
	return api.Cusp{P: p / d, Q: q / d}
}

// member returns a matrix of Gamma0(n).
func member(r *rand.Rand, n int) api.Mat2 {
	for {
		c, d := n*(r.Intn(9)-4), r.Intn(81)-40
		if gcd(c, d) != 1 {
			continue
		}
		if c == 0 {
			return api.Mat2{A: d, B: r.Intn(9) - 4, D: d}
		}
		for a := 0; ; a++ {
			if (a*d-1)%c == 0 {
				return times(api.Mat2{A: 1, B: r.Intn(5) - 2, D: 1}, api.Mat2{A: a, B: (a*d - 1) / c, C: c, D: d})
			}
		}
	}
}

// randomMatrix returns a matrix with a determinant other than 0 and entries up to a limit.
func randomMatrix(r *rand.Rand, limit int) api.Mat2 {
	for {
		entry := func() int { return r.Intn(2*limit+1) - limit }
		if g := (api.Mat2{A: entry(), B: entry(), C: entry(), D: entry()}); g.A*g.D != g.B*g.C {
			return g
		}
	}
}

// randomCusp returns a cusp with numbers up to a limit.
func randomCusp(r *rand.Rand, limit int) api.Cusp {
	for {
		c := api.Cusp{P: r.Intn(2*limit+1) - limit, Q: r.Intn(limit + 1)}
		if gcd(c.P, c.Q) == 1 && (c.Q > 0 || c.P == 1) {
			return c
		}
	}
}

// extremes returns cusps with great numbers.
func extremes() []api.Cusp {
	return []api.Cusp{
		{P: top, Q: 1}, {P: -top, Q: 1}, {P: 1, Q: top}, {P: -1, Q: top}, {P: top, Q: top - 1}, {P: 1 - top, Q: top}, {P: 433494437, Q: 701408733}, {P: -987654321, Q: 1000000007},
	}
}

// path returns the cusps of a chain of Farey neighbours from infinity to c: the
// convergents of the continued fraction.
func pathTo(c api.Cusp) []api.Cusp {
	l := []api.Cusp{infinity}
	before, last := api.Cusp{P: 0, Q: 1}, infinity
	for p, q := c.P, c.Q; q != 0; {
		n := p / q
		if p%q < 0 {
			n--
		}
		p, q = q, p-n*q
		before, last = last, api.Cusp{P: n*last.P + before.P, Q: n*last.Q + before.Q}
		l = append(l, last)
	}
	return l
}

// wander returns a chain of Farey neighbours from infinity to c, of which a quotient is
// rounded up or down at random; it may pass a cusp more than once.
func wander(r *rand.Rand, c api.Cusp) []api.Cusp {
	l := []api.Cusp{infinity}
	x, y := [2]int{0, -1}, [2]int{1, 0}
	for p, q := c.P, c.Q; q != 0; {
		n := p / q
		if p%q != 0 && (p < 0) != (q < 0) {
			n--
		}
		if p%q != 0 && r.Intn(2) == 0 {
			n++
		}
		p, q = q, n*q-p
		x, y = y, [2]int{n*y[0] - x[0], n*y[1] - x[1]}
		l = append(l, imageOf(api.Mat2{A: y[0], B: 0, C: y[1], D: 1}, infinity))
		if r.Intn(4) == 0 { // there and back
			l = append(l, l[len(l)-2], l[len(l)-1])
		}
	}
	return l
}

// joined returns the chain that goes back to infinity and then to another cusp.
func joined(from, to []api.Cusp) []api.Cusp {
	l := slices.Clone(from)
	slices.Reverse(l)
	return append(l, to[1:]...)
}

// An oracle knows the classes of all paths between Farey neighbours.
type oracle struct {
	*symbols.Module
	t     *testing.T
	rows  [][]*big.Rat
	count int
}

// oracleOf returns the oracle of a module.
func oracleOf(t *testing.T, m *symbols.Module) oracle {
	t.Helper()
	a := m.Matrix()
	o := oracle{Module: m, t: t, count: a.Rows}
	for n := range a.Rows {
		o.rows = append(o.rows, toRats(a.A[n*a.Cols:(n+1)*a.Cols]))
	}
	return o
}

// along returns the class along a chain: P{g 0, g infinity} is the class of [P, 1] g, and
// the first pair is that of the unit matrix.
func (o oracle) along(poly []*big.Rat, chain []api.Cusp) []*big.Rat {
	o.t.Helper()
	sum := zeros(o.Dim())
	for k := 1; k < len(chain); k++ {
		x, y := chain[k-1], chain[k]
		det := y.P*x.Q - x.P*y.Q
		g := api.Mat2{A: y.P, B: det * x.P, C: y.Q, D: det * x.Q}
		for i, c := range poly {
			if c.Sign() == 0 {
				continue
			}
			v, e := manin.Apply(o.Spec(), i*o.count/len(poly), g)
			if e != api.OK {
				o.t.Fatalf("Apply(%v, %v): %d", o.Spec(), g, e)
			}
			for n, a := range v {
				if len(a.Mag) > 0 {
					factor := new(big.Rat).Mul(c, new(big.Rat).SetInt(toInt(a)))
					for j, x := range o.rows[n] {
						sum[j].Add(sum[j], new(big.Rat).Mul(factor, x))
					}
				}
			}
		}
	}
	return sum
}

// valueAt returns the value of a homogeneous polynomial.
func valueAt(poly []*big.Rat, x, y *big.Rat) *big.Rat {
	sum, power := new(big.Rat), big.NewRat(1, 1)
	// The powers of y are multiplied in from the last coefficient on, those of x afterwards.
	for i := len(poly) - 1; i >= 0; i-- {
		sum.Mul(sum, x)
		sum.Add(sum, new(big.Rat).Mul(poly[i], power))
		power.Mul(power, y)
	}
	return sum
}

// toInt reads an integer as its digits denote it.
func toInt(a api.Int) *big.Int {
	z := new(big.Int)
	for _, d := range slices.Backward(a.Mag) {
		z.Lsh(z, 32).Or(z, big.NewInt(int64(d)))
	}
	if a.Neg {
		z.Neg(z)
	}
	return z
}

// toRat reads a fraction as it is to be read, with 0 as a denominator.
func toRat(a api.Rat) *big.Rat {
	d := toInt(a.Den)
	if d.Sign() == 0 {
		return new(big.Rat)
	}
	return new(big.Rat).SetFrac(toInt(a.Num), d)
}

// toRats reads fractions.
func toRats(l []api.Rat) []*big.Rat {
	values := make([]*big.Rat, len(l))
	for i, x := range l {
		values[i] = toRat(x)
	}
	return values
}

// fromInt returns an integer with some leading zeros.
func fromInt(z *big.Int, zeros int) api.Int {
	a := api.Int{Neg: z.Sign() < 0}
	for z = new(big.Int).Abs(z); z.Sign() != 0; z.Rsh(z, 32) {
		a.Mag = append(a.Mag, uint32(z.Uint64()))
	}
	a.Mag = append(a.Mag, make([]uint32, zeros)...)
	return a
}

// disguise returns fractions in some of their representations.
func disguise(r *rand.Rand, l []*big.Rat) []api.Rat {
	fractions := make([]api.Rat, len(l))
	for i, x := range l {
		factor := big.NewInt(int64(1 + r.Intn(6)))
		if r.Intn(2) == 0 {
			factor.Neg(factor)
		}
		fractions[i] = api.Rat{Num: fromInt(new(big.Int).Mul(x.Num(), factor), r.Intn(3)), Den: fromInt(new(big.Int).Mul(x.Denom(), factor), r.Intn(3))}
		if x.Sign() == 0 && r.Intn(2) == 0 {
			fractions[i] = api.Rat{Num: fromInt(factor, 1), Den: api.Int{Neg: true, Mag: make([]uint32, r.Intn(2))}}
		}
	}
	return fractions
}

// randomPoly returns n coefficients, some of which are 0.
func randomPoly(r *rand.Rand, n int) []*big.Rat {
	l := zeros(n)
	for _, x := range l {
		if r.Intn(4) > 0 {
			x.SetFrac64(int64(r.Intn(41)-20), int64(1+r.Intn(6)))
		}
		if r.Intn(9) == 0 {
			x.Mul(x, new(big.Rat).SetInt(new(big.Int).Lsh(big.NewInt(77), 70)))
		}
	}
	return l
}

// rats returns fractions with integer values.
func rats(l ...int64) []*big.Rat {
	var values []*big.Rat
	for _, n := range l {
		values = append(values, big.NewRat(n, 1))
	}
	return values
}

// zeros returns n zeros.
func zeros(n int) []*big.Rat {
	l := make([]*big.Rat, n)
	for i := range l {
		l[i] = new(big.Rat)
	}
	return l
}

// sumOf returns the sum of lists of fractions.
func sumOf(l ...[]api.Rat) []*big.Rat {
	sum := zeros(len(l[0]))
	for _, x := range l {
		for i, y := range toRats(x) {
			sum[i].Add(sum[i], y)
		}
	}
	return sum
}

// isNormal reports whether a fraction is normalized.
func isNormal(a api.Rat) bool {
	for _, x := range []api.Int{a.Num, a.Den} {
		last := len(x.Mag) - 1
		if last < 0 && x.Neg || last >= 0 && x.Mag[last] == 0 {
			return false
		}
	}
	n, d := toInt(a.Num), toInt(a.Den)
	return d.Sign() > 0 && new(big.Int).GCD(nil, nil, n.Abs(n), d).Cmp(big.NewInt(1)) == 0
}

// sameRats reports whether fractions of a result are normalized and have these values.
func sameRats(got []api.Rat, want []*big.Rat) bool {
	return slices.EqualFunc(got, want, func(a api.Rat, x *big.Rat) bool { return isNormal(a) && toRat(a).Cmp(x) == 0 })
}

// expectError checks that a result is an error with a zero value beside it.
func expectError(t *testing.T, name string, got any, e, want api.Errno) {
	t.Helper()
	if e != want || !reflect.ValueOf(got).IsZero() {
		t.Errorf("%s: %v, %d; want error %d", name, got, e, want)
	}
}
