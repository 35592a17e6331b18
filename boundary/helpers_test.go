package boundary_test

import (
	"math/big"
	"math/rand"
	"reflect"
	"slices"
	"testing"

	"halfplane/api"
	"halfplane/cusps"
	"halfplane/symbols"
)

const top = api.MaxEntry

var infinity = api.Cusp{P: 1, Q: 0}

// noCusps are values that are no cusps, with the error of sl2.CheckCusp.
var noCusps = map[api.Cusp]api.Errno{
	{}: api.ErrForm, {P: -1, Q: 0}: api.ErrForm, {P: 2, Q: 0}: api.ErrForm, {P: 2, Q: 4}: api.ErrForm, {P: 0, Q: 2}: api.ErrForm,
	{P: 1, Q: -1}: api.ErrRange, {P: top + 1, Q: 1}: api.ErrRange, {P: 1, Q: top + 1}: api.ErrRange, {P: -1 << 63, Q: 1<<63 - 1}: api.ErrRange,
}

// spec names a space.
func spec(level, weight, disc int) api.Spec {
	return api.Spec{Level: level, Weight: weight, Disc: disc}
}

// spaces returns valid spaces of all kinds.
func spaces() []api.Spec {
	return []api.Spec{
		spec(1, 2, 1), spec(1, 4, 1), spec(1, 12, 1), spec(1, 24, 1), spec(2, 2, 1), spec(2, 8, 1), spec(3, 3, -3), spec(4, 5, -4), spec(4, 3, -4),
		spec(5, 4, 5), spec(6, 4, 1), spec(7, 3, -7), spec(8, 4, 8), spec(8, 3, -8), spec(9, 4, 1), spec(9, 3, -3), spec(11, 2, 1), spec(12, 3, -3), spec(12, 2, 12),
		spec(12, 5, -4), spec(13, 2, 13), spec(15, 3, -15), spec(16, 3, -4), spec(16, 2, 8), spec(18, 3, -3), spec(20, 3, -20), spec(24, 2, 24), spec(25, 2, 5), spec(27, 3, -3),
		spec(23, 3, -23), spec(30, 2, 1), spec(32, 3, -8), spec(36, 2, 12), spec(36, 3, -4), spec(37, 2, 1), spec(48, 2, 12), spec(64, 2, 8), spec(120, 2, 60), spec(100, 2, 5),
	}
}

// wrong returns a space for each error of dimension.Check.
func wrong() []api.Spec {
	return []api.Spec{
		{}, spec(0, 2, 1), spec(121, 2, 1), spec(1, 1, 1), spec(1, 26, 1), spec(11, 2, 121), spec(5, 2, 2), spec(5, 2, 0), spec(5, 3, -3),
		spec(5, 3, 5), spec(3, 2, -3), spec(119, 24, 1), spec(1, 3, 1),
	}
}

// module returns the module of a valid space.
func module(t *testing.T, s api.Spec) *symbols.Module {
	t.Helper()
	m, e := symbols.New(s)
	if e != api.OK {
		t.Fatalf("New(%v): %d", s, e)
	}
	return m
}

// gcd is Euclid's algorithm.
func gcd(a, b int) int {
	for b != 0 {
		a, b = b, a%b
	}
	return max(a, -a)
}

// remainder returns the residue of n modulo m.
func remainder(n, m int) int {
	return (n%m + m) % m
}

// chi returns the character of a space, for residues that are prime to the level.
func chi(s api.Spec, n int) int {
	value := 1
	for n = remainder(n, s.Level); n > 1; {
		p := 2
		for n%p != 0 {
			p++
		}
		n /= p
		value *= primeSymbol(s.Disc, p)
	}
	return value
}

// primeSymbol returns the symbol (d/p) of a prime p that does not divide d.
func primeSymbol(d, p int) int {
	if p == 2 {
		if r := remainder(d, 8); r == 1 || r == 7 {
			return 1
		}
		return -1
	}
	for x := range p {
		if (x*x-d)%p == 0 {
			return 1
		}
	}
	return -1
}

// A space knows the generators by their definition: the matrices of Gamma0(N) that are the
// unit matrix modulo N do not change them, so that a generator is that of a pair modulo N,
// and the others lead from pair to pair.
type space struct {
	api.Spec
	// units are the diagonals of matrices of determinant 1 modulo N, with their characters.
	units []image
	// orbit contains the number of the orbit of a pair, and the sign by which its generator
	// differs from that of the first pair of the orbit.
	orbit map[[2]int][2]int
	// isZero says of each orbit whether its generators are 0.
	isZero []bool
	basis  []api.Cusp
}

// spaceOf returns the space of a valid Spec.
func spaceOf(s api.Spec) *space {
	b := &space{Spec: s, orbit: map[[2]int][2]int{}}
	for a := range s.Level {
		for d := range s.Level {
			if a*d%s.Level == 1%s.Level {
				b.units = append(b.units, image{[2]int{a, d}, chi(s, d)})
			}
		}
	}
	for x := range s.Level {
		for y := range s.Level {
			if _, known := b.orbit[[2]int{x, y}]; !known && gcd(gcd(x, y), s.Level) == 1 {
				b.isZero = append(b.isZero, false)
				b.visit([2]int{x, y})
			}
		}
	}
	all, _ := cusps.List0(s.Level)
	for _, c := range all {
		if o, _ := b.at(c.P, c.Q); !b.isZero[o] {
			b.basis = append(b.basis, c)
		}
	}
	return b
}

// at returns the orbit and the sign of a pair.
func (b *space) at(x, y int) (orbit, sign int) {
	o := b.orbit[[2]int{remainder(x, b.Level), remainder(y, b.Level)}]
	return o[0], o[1]
}

// visit numbers all pairs of an orbit.
func (b *space) visit(first [2]int) {
	number := len(b.isZero) - 1
	b.orbit[first] = [2]int{number, 1}
	for queue := [][2]int{first}; len(queue) > 0; queue = queue[1:] {
		sign := b.orbit[queue[0]][1]
		for _, x := range b.images(queue[0]) {
			if known, ok := b.orbit[x.pair]; !ok {
				b.orbit[x.pair] = [2]int{number, sign * x.factor}
				queue = append(queue, x.pair)
			} else if known[1] != sign*x.factor {
				b.isZero[number] = true
			}
		}
	}
}

// An image is a pair whose generator is factor times that of another one.
type image struct {
	pair   [2]int
	factor int
}

// images returns the images of a pair under -1, T, and diagonal matrices modulo N.
func (b *space) images(v [2]int) []image {
	n := b.Level
	parity := 1 - 2*(b.Weight%2)
	l := []image{
		{[2]int{(v[0] + v[1]) % n, v[1]}, 1},
		{[2]int{remainder(-v[0], n), remainder(-v[1], n)}, parity},
	}
	for _, x := range b.units {
		l = append(l, image{[2]int{x.pair[0] * v[0] % n, x.pair[1] * v[1] % n}, x.factor})
	}
	return l
}

// generator returns the generator of a pair as a vector.
func (b *space) generator(x, y int) []int {
	v := make([]int, len(b.basis))
	o, sign := b.at(x, y)
	for i, c := range b.basis {
		if p, other := b.at(c.P, c.Q); p == o {
			v[i] = sign * other
		}
	}
	return v
}

// boundary returns P{to} - P{from}.
func (b *space) boundary(poly []*big.Rat, from, to api.Cusp) []*big.Rat {
	sum := zeros(len(b.basis))
	for factor, c := range map[int64]api.Cusp{1: to, -1: from} {
		value := valueAt(poly, c.P, c.Q)
		value.Mul(value, big.NewRat(factor, 1))
		for i, x := range b.generator(c.P, c.Q) {
			sum[i].Add(sum[i], new(big.Rat).Mul(value, big.NewRat(int64(x), 1)))
		}
	}
	return sum
}

// valueAt returns the value of a homogeneous polynomial.
func valueAt(poly []*big.Rat, x, y int) *big.Rat {
	sum := new(big.Rat)
	for i, c := range poly {
		factor := new(big.Int).Mul(power(x, i), power(y, len(poly)-1-i))
		sum.Add(sum, new(big.Rat).Mul(c, new(big.Rat).SetInt(factor)))
	}
	return sum
}

// power returns a^n.
func power(a, n int) *big.Int {
	return new(big.Int).Exp(big.NewInt(int64(a)), big.NewInt(int64(n)), nil)
}

// times returns x y.
func times(x, y api.Mat2) api.Mat2 {
	return api.Mat2{A: x.A*y.A + x.B*y.C, B: x.A*y.B + x.B*y.D, C: x.C*y.A + x.D*y.C, D: x.C*y.B + x.D*y.D}
}

// member returns a matrix of Gamma0(n).
func member(r *rand.Rand, n int) api.Mat2 {
	for {
		c, d := n*(r.Intn(9)-4), r.Intn(81)-40
		if gcd(c, d) != 1 {
			continue
		}
		if c == 0 {
			return api.Mat2{A: d, B: r.Intn(9) - 4, D: d}
		}
		for a := 0; ; a++ {
			if (a*d-1)%c == 0 {
				return times(api.Mat2{A: 1, B: r.Intn(5) - 2, D: 1}, api.Mat2{A: a, B: (a*d - 1) / c, C: c, D: d})
			}
		}
	}
}

// randomCusp returns a cusp with numbers up to a limit.
func randomCusp(r *rand.Rand, limit int) api.Cusp {
	for {
		c := api.Cusp{P: r.Intn(2*limit+1) - limit, Q: r.Intn(limit + 1)}
		if gcd(c.P, c.Q) == 1 && (c.Q > 0 || c.P == 1) {
			return c
		}
	}
}

// toInt reads an integer as its digits denote it.
func toInt(a api.Int) *big.Int {
	z := new(big.Int)
	for _, d := range slices.Backward(a.Mag) {
		z.Lsh(z, 32).Or(z, big.NewInt(int64(d)))
	}
	if a.Neg {
		z.Neg(z)
	}
	return z
}

// toRat reads a normalized fraction.
func toRat(a api.Rat) *big.Rat {
	return new(big.Rat).SetFrac(toInt(a.Num), toInt(a.Den))
}

// rowsOf reads the rows of a matrix, the elements of which are to be normalized.
func rowsOf(t *testing.T, a api.Matrix) [][]*big.Rat {
	t.Helper()
	if len(a.A) != a.Rows*a.Cols {
		t.Fatalf("%d elements of %d rows and %d columns", len(a.A), a.Rows, a.Cols)
	}
	var rows [][]*big.Rat
	for i := range a.Rows {
		row := []*big.Rat{}
		for _, x := range a.A[i*a.Cols : (i+1)*a.Cols] {
			if !isNormal(x) {
				t.Fatalf("%v is not normalized", x)
			}
			row = append(row, toRat(x))
		}
		rows = append(rows, row)
	}
	return rows
}

// isNormal reports whether a fraction is normalized.
func isNormal(a api.Rat) bool {
	for _, x := range []api.Int{a.Num, a.Den} {
		last := len(x.Mag) - 1
		if last < 0 && x.Neg || last >= 0 && x.Mag[last] == 0 {
			return false
		}
	}
	n, d := toInt(a.Num), toInt(a.Den)
	return d.Sign() > 0 && new(big.Int).GCD(nil, nil, n.Abs(n), d).Cmp(big.NewInt(1)) == 0
}

// product returns x * t for a row vector x.
func product(x []*big.Rat, t [][]*big.Rat, cols int) []*big.Rat {
	sum := zeros(cols)
	for i, c := range x {
		if c.Sign() != 0 {
			for j, y := range t[i] {
				sum[j].Add(sum[j], new(big.Rat).Mul(c, y))
			}
		}
	}
	return sum
}

// zeros returns n zeros.
func zeros(n int) []*big.Rat {
	l := make([]*big.Rat, n)
	for i := range l {
		l[i] = new(big.Rat)
	}
	return l
}

// multiple returns c times x.
func multiple(c int64, x []*big.Rat) []*big.Rat {
	l := make([]*big.Rat, len(x))
	for i, y := range x {
		l[i] = new(big.Rat).Mul(big.NewRat(c, 1), y)
	}
	return l
}

// same reports whether fractions are equal.
func same(x, y []*big.Rat) bool {
	return slices.EqualFunc(x, y, func(a, b *big.Rat) bool { return a.Cmp(b) == 0 })
}

// expectError checks that a result is an error with a zero value beside it.
func expectError(t *testing.T, name string, got any, e, want api.Errno) {
	t.Helper()
	if e != want || !reflect.ValueOf(got).IsZero() {
		t.Errorf("%s: %v, %d; want error %d", name, got, e, want)
	}
}
