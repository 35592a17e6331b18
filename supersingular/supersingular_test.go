package supersingular_test

import (
	"math"
	"math/big"
	"math/rand"
	"slices"
	"testing"

	"halfplane/api"
	"halfplane/bigint"
	"halfplane/charpoly"
	"halfplane/factor"
	"halfplane/matrix"
	"halfplane/qpoly"
	"halfplane/rational"
	"halfplane/realroots"
	"halfplane/supersingular"
	"halfplane/zpoly"
)

func TestNonresidue(t *testing.T) { // P17.1
	for _, p := range primes() {
		if r, e := supersingular.Nonresidue(p); e != api.OK || r != nonresidue(p) {
			t.Error(p, r, e)
		}
	}
}

func TestMul(t *testing.T) { // P17.1
	r := rand.New(rand.NewSource(1))
	for _, p := range primes() {
		f := field{p, nonresidue(p)}
		for range 200 {
			a, b := api.Quad{X: r.Intn(5*p) - 2*p, Y: r.Intn(5*p) - 2*p}, api.Quad{X: r.Intn(5*p) - 2*p, Y: r.Intn(5*p) - 2*p}
			if c, e := supersingular.Mul(p, a, b); e != api.OK || c != f.mul(a, b) {
				t.Fatal(p, a, b, c, e)
			}
		}
		if c, e := supersingular.Mul(p, api.Quad{Y: 1}, api.Quad{Y: 1}); e != api.OK || c != (api.Quad{X: f.r}) {
			t.Error(p, c, e)
		}
		for _, n := range []int{math.MinInt, math.MaxInt, math.MinInt + 1} {
			a := api.Quad{X: n, Y: n}
			b := api.Quad{X: residue(n%p, p), Y: residue(n%p, p)}
			if c, e := supersingular.Mul(p, a, a); e != api.OK || c != f.mul(b, b) {
				t.Error(p, n, c, e)
			}
		}
	}
}

func TestInverse(t *testing.T) { // P17.1
	for _, p := range []int{5, 7, 11, 13, 37, 199} {
		f := field{p, nonresidue(p)}
		for _, a := range f.all() {
			b, e := supersingular.Inverse(p, a)
			if a == (api.Quad{}) {
				if e != api.ErrZero || b != (api.Quad{}) {
					t.Error(p, b, e)
				}
				continue
			}
			if e != api.OK || f.mul(a, b) != (api.Quad{X: 1}) || b.X < 0 || b.X >= p || b.Y < 0 || b.Y >= p {
				t.Fatal(p, a, b, e)
			}
		}
		for _, a := range []api.Quad{{X: p}, {Y: -3 * p}, {X: -p, Y: 5 * p}} {
			if b, e := supersingular.Inverse(p, a); e != api.ErrZero || b != (api.Quad{}) {
				t.Error(p, a, b, e)
			}
		}
		if b, e := supersingular.Inverse(p, api.Quad{X: 1 - p, Y: 7 * p}); e != api.OK || b != (api.Quad{X: 1}) {
			t.Error(p, b, e)
		}
		for _, n := range []int{math.MinInt, math.MaxInt} {
			b, e := supersingular.Inverse(p, api.Quad{X: n, Y: n})
			if c := residue(n%p, p); c == 0 && e != api.ErrZero || c != 0 && f.mul(api.Quad{X: c, Y: c}, b) != (api.Quad{X: 1}) {
				t.Error(p, n, b, e)
			}
		}
	}
}

func TestInvariants(t *testing.T) { // P17.2, P17.5
	for _, p := range primes() {
		l, e := supersingular.Invariants(p)
		f := field{p, nonresidue(p)}
		if p < 60 || p > 190 {
			if e != api.OK || !slices.Equal(l, f.invariants()) {
				t.Fatal(p, l, e)
			}
		}
		if n := p/12 + map[int]int{1: 0, 5: 1, 7: 1, 11: 2}[p%12]; e != api.OK || len(l) != n {
			t.Fatal(p, l, e)
		}
		for _, j := range l {
			if !slices.Contains(l, api.Quad{X: j.X, Y: residue(-j.Y, p)}) {
				t.Fatal(p, l)
			}
		}
		if slices.Contains(l, api.Quad{}) != (p%3 == 2) || slices.Contains(l, api.Quad{X: 1728 % p}) != (p%4 == 3) {
			t.Fatal(p, l)
		}
		squares := make([]int, p)
		for x := range p {
			squares[x*x%p]++
		}
		for j := 1; j < p; j++ {
			if j != 1728%p && slices.Contains(l, api.Quad{X: j}) != (points(f, squares, j) == p) {
				t.Fatal(p, j, l)
			}
		}
	}
	for p, want := range map[int][]api.Quad{5: {{}}, 7: {{X: 6}}, 11: {{}, {X: 1}}, 13: {{X: 5}}} {
		if l, e := supersingular.Invariants(p); e != api.OK || !slices.Equal(l, want) {
			t.Error(p, l, e)
		}
	}
}

// points returns the number of affine points of a curve with the invariant j, where
// squares[x] is the number of the square roots of x.
func points(f field, squares []int, j int) int {
	c := f.mul(api.Quad{X: j}, f.inverse(api.Quad{X: residue(1728-j, f.p)})).X
	n := 0
	for x := range f.p {
		n += squares[(x*x*x+3*c*x+2*c)%f.p]
	}
	return n
}

func TestWeights(t *testing.T) { // P17.2, P17.5
	for _, p := range primes() {
		l, _ := supersingular.Invariants(p)
		weights, e := supersingular.Weights(p)
		if e != api.OK || len(weights) != len(l) {
			t.Fatal(p, weights, e)
		}
		mass := new(big.Rat)
		for i, j := range l {
			want := 1
			if j.Y == 0 && j.X == 0 {
				want = 3
			} else if j.Y == 0 && j.X == 1728%p {
				want = 2
			}
			if weights[i] != want {
				t.Fatal(p, l, weights)
			}
			mass.Add(mass, big.NewRat(1, int64(want)))
		}
		m, e := supersingular.Mass(p)
		if e != api.OK || mass.Cmp(big.NewRat(int64(p-1), 12)) != 0 || !isNormal(m.Num) || !isNormal(m.Den) || toBig(m.Num).Cmp(mass.Num()) != 0 || toBig(m.Den).Cmp(mass.Denom()) != 0 {
			t.Fatal(p, m, e)
		}
	}
	if w, e := supersingular.Weights(11); e != api.OK || !slices.Equal(w, []int{3, 2}) {
		t.Error(w, e)
	}
	if m, e := supersingular.Mass(11); e != api.OK || rational.Format(m) != "5/6" {
		t.Error(m, e)
	}
}

func TestModular(t *testing.T) { // P17.3, P17.6
	r := rand.New(rand.NewSource(2))
	number := func() api.Int {
		a := api.Int{Neg: r.Intn(2) == 0}
		for range r.Intn(4) {
			a.Mag = append(a.Mag, r.Uint32()>>uint(r.Intn(33)))
		}
		return a
	}
	for i := range 400 {
		x, y := number(), number()
		if i%2 == 0 {
			x, y = bigint.Of(r.Intn(41)-20), bigint.Of(r.Intn(41)-20)
		}
		before := toBig(x).String() + " " + toBig(y).String()
		for _, l := range []int{2, 3} {
			v, e := supersingular.Modular(l, x, y)
			if e != api.OK || !isNormal(v) || toBig(v).Cmp(phi(l, toBig(x), toBig(y))) != 0 {
				t.Fatal(l, x, y, v, e)
			}
			w, _ := supersingular.Modular(l, y, x)
			if bigint.Cmp(v, w) != 0 {
				t.Fatal(l, x, y, v, w)
			}
			// Kronecker's congruence.
			a, b := new(big.Int).Exp(toBig(x), big.NewInt(int64(l)), nil), new(big.Int).Exp(toBig(y), big.NewInt(int64(l)), nil)
			a.Sub(a, toBig(y)).Mul(a, b.Sub(toBig(x), b))
			if a.Sub(a, toBig(v)).Mod(a, big.NewInt(int64(l))).Sign() != 0 {
				t.Fatal(l, x, y, v)
			}
		}
		if toBig(x).String()+" "+toBig(y).String() != before {
			t.Fatal("an argument was changed")
		}
	}
}

// Pairs of invariants of curves with complex multiplication, between which there is an
// isogeny of the degree.
func TestComplexMultiplication(t *testing.T) { // P17.3
	for _, c := range [][3]int{
		{2, 0, 54000}, {2, 1728, 1728}, {2, 1728, 287496}, {2, 8000, 8000}, {2, -3375, -3375}, {2, -3375, 16581375},
		{3, 0, 0}, {3, 0, -12288000}, {3, 54000, 54000}, {3, 8000, 8000}, {3, -32768, -32768},
	} {
		for _, d := range [][3]int{c, {c[0], c[2], c[1]}} {
			if v, e := supersingular.Modular(d[0], bigint.Of(d[1]), bigint.Of(d[2])); e != api.OK || len(v.Mag) != 0 || v.Neg {
				t.Error(d, v, e)
			}
		}
	}
	for _, c := range [][3]int{{2, 0, 0}, {2, 0, 1728}, {3, 1728, 1728}, {3, 0, 54000}} {
		if v, e := supersingular.Modular(c[0], bigint.Of(c[1]), bigint.Of(c[2])); e != api.OK || len(v.Mag) == 0 {
			t.Error(c, v, e)
		}
	}
	for _, l := range []int{0, 1, 4, 5, -2, -3, math.MinInt, math.MaxInt} {
		if v, e := supersingular.Modular(l, bigint.Of(1), api.Int{}); e != api.ErrLevel || len(v.Mag) != 0 {
			t.Error(l, v, e)
		}
	}
	// A negative zero, and zeros before the digits.
	v, e := supersingular.Modular(2, api.Int{Neg: true, Mag: []uint32{0}}, api.Int{Mag: []uint32{54000, 0, 0}})
	if e != api.OK || len(v.Mag) != 0 || v.Neg {
		t.Error(v, e)
	}
	// Numbers whose powers are beyond the limit of bigint.Pow.
	x := api.Int{Mag: make([]uint32, 20000)}
	x.Mag[19999] = 1
	if v, e := supersingular.Modular(3, x, x); e != api.OK || bigint.Bits(v) != 6*19999*32+1 && bigint.Bits(v) != 6*19999*32 {
		t.Error(bigint.Bits(v), e)
	}
}

func TestGraph(t *testing.T) { // P17.4
	for _, p := range primes() {
		f := field{p, nonresidue(p)}
		l, _ := supersingular.Invariants(p)
		elements := f.all()
		for _, n := range []int{2, 3} {
			g, e := supersingular.Graph(p, n)
			if e != api.OK || len(g) != len(l) {
				t.Fatal(p, n, g, e)
			}
			for i, row := range g {
				if len(row) != len(l) {
					t.Fatal(p, n, g)
				}
				// Two monic polynomials of degree n + 1 that agree at n + 2 elements.
				for _, y := range elements[p : p+n+2] {
					product := api.Quad{X: 1}
					for k, j := range l {
						product = f.mul(product, f.power(f.add(y, api.Quad{X: -j.X, Y: -j.Y}), row[k]))
					}
					if product != f.phi(n, l[i], y) {
						t.Fatal(p, n, i, row)
					}
				}
			}
		}
	}
	equal := func(a, b [][]int) bool { return slices.EqualFunc(a, b, slices.Equal[[]int]) }
	if g, e := supersingular.Graph(11, 2); e != api.OK || !equal(g, [][]int{{0, 3}, {2, 1}}) {
		t.Error(g, e)
	}
	if g, e := supersingular.Graph(5, 3); e != api.OK || !equal(g, [][]int{{4}}) {
		t.Error(g, e)
	}
}

func TestGraphProperties(t *testing.T) { // P17.6
	for _, p := range primes() {
		weights, _ := supersingular.Weights(p)
		two, _ := supersingular.Graph(p, 2)
		three, _ := supersingular.Graph(p, 3)
		for l, g := range map[int][][]int{2: two, 3: three} {
			for i, row := range g {
				sum := 0
				for k, n := range row {
					sum += n
					if n < 0 || n*weights[k] != g[k][i]*weights[i] {
						t.Fatal(p, l, g)
					}
				}
				if sum != l+1 {
					t.Fatal(p, l, g)
				}
			}
			if !isConnected(g) {
				t.Fatal(p, l, g)
			}
			checkRoots(t, p, l, g)
		}
		a, _ := matrix.Mul(rationals(two), rationals(three))
		b, _ := matrix.Mul(rationals(three), rationals(two))
		if d, _ := matrix.Sub(a, b); slices.ContainsFunc(d.A, func(x api.Rat) bool { return rational.Sign(x) != 0 }) {
			t.Fatal(p, two, three)
		}
	}
}

func rationals(g [][]int) api.Matrix {
	m := api.Matrix{Rows: len(g), Cols: len(g)}
	for _, row := range g {
		for _, n := range row {
			m.A = append(m.A, rational.Of(n))
		}
	}
	return m
}

// isConnected reports whether all points can be reached from the first one.
func isConnected(g [][]int) bool {
	reached := make([]bool, len(g))
	reached[0] = true
	for range g {
		for i, row := range g {
			for k, n := range row {
				if reached[i] && n > 0 {
					reached[k] = true
				}
			}
		}
	}
	return !slices.Contains(reached, false)
}

// checkRoots reports a graph whose characteristic polynomial has not the simple root
// l + 1, or another root that is not real or has a square greater than 4 l.
func checkRoots(t *testing.T, p, l int, g [][]int) {
	t.Helper()
	f, e := charpoly.CharPoly(rationals(g))
	if e != api.OK {
		t.Fatal(p, l, e)
	}
	rest, r, _ := qpoly.DivMod(f, api.Poly{rational.Of(-l - 1), rational.Of(1)})
	if len(r) != 0 || rational.Sign(qpoly.Eval(rest, rational.Of(l+1))) == 0 {
		t.Fatal(p, l, f)
	}
	// Fractions that are a little greater than the square roots of 8 and 12.
	bound, _ := rational.Parse(map[int]string{2: "3363/1189", 3: "18817/5432"}[l])
	whole, _ := qpoly.Clear(rest)
	_, parts, _ := factor.Factor(whole)
	for _, part := range parts {
		n, e := realroots.Count(part.Poly, api.Interval{Lo: rational.Neg(bound), Hi: bound})
		if e != api.OK || n != zpoly.Degree(part.Poly) {
			t.Fatal(p, l, part, n, e)
		}
	}
}

// Every function returns the errors of p first.
func TestErrors(t *testing.T) { // P17.1, P17.2, P17.4
	bad := map[int]api.Errno{4: api.ErrRange, 3: api.ErrRange, 2: api.ErrRange, 0: api.ErrRange, -7: api.ErrRange, 201: api.ErrRange, 211: api.ErrRange, math.MinInt: api.ErrRange, math.MaxInt: api.ErrRange}
	for p := 5; p <= 200; p++ {
		if !isPrime(p) {
			bad[p] = api.ErrPrime
		}
	}
	for p, want := range bad {
		if r, e := supersingular.Nonresidue(p); e != want || r != 0 {
			t.Error("Nonresidue", p, r, e)
		}
		for _, a := range []api.Quad{{}, {X: 1}, {X: math.MinInt, Y: math.MaxInt}} {
			if b, e := supersingular.Mul(p, a, a); e != want || b != (api.Quad{}) {
				t.Error("Mul", p, b, e)
			}
			if b, e := supersingular.Inverse(p, a); e != want || b != (api.Quad{}) {
				t.Error("Inverse", p, b, e)
			}
		}
		if l, e := supersingular.Invariants(p); e != want || len(l) != 0 {
			t.Error("Invariants", p, l, e)
		}
		if l, e := supersingular.Weights(p); e != want || len(l) != 0 {
			t.Error("Weights", p, l, e)
		}
		if m, e := supersingular.Mass(p); e != want || len(m.Num.Mag)+len(m.Den.Mag) != 0 {
			t.Error("Mass", p, m, e)
		}
		for _, l := range []int{2, 3, 5, math.MinInt} {
			if g, e := supersingular.Graph(p, l); e != want || len(g) != 0 {
				t.Error("Graph", p, l, g, e)
			}
		}
	}
	for _, l := range []int{0, 1, 4, 5, 11, -2, math.MinInt, math.MaxInt} {
		if g, e := supersingular.Graph(11, l); e != api.ErrLevel || len(g) != 0 {
			t.Error(l, g, e)
		}
	}
}

// overwrite writes into all digits of an integer, up to the capacity.
func overwrite(a api.Int) {
	for i := range a.Mag[:cap(a.Mag)] {
		a.Mag[:cap(a.Mag)][i] = 0xDEADBEEF
	}
}

// No result shares memory with an argument, with another one, or within itself.
func TestMemory(t *testing.T) { // R3
	g, _ := supersingular.Graph(37, 2)
	for i, row := range g {
		rest := slices.Concat(g[i+1:]...)
		for k := range row[:cap(row)] {
			row[:cap(row)][k] = 77
		}
		if !slices.Equal(slices.Concat(g[i+1:]...), rest) {
			t.Fatal("two rows share memory")
		}
	}
	if again, _ := supersingular.Graph(37, 2); slices.Contains(slices.Concat(again...), 77) {
		t.Error("two results share memory")
	}
	one := bigint.Of(1)
	v, _ := supersingular.Modular(2, api.Int{}, one)
	want := toBig(v).String()
	overwrite(v)
	if w, _ := supersingular.Modular(2, api.Int{}, one); toBig(w).String() != want || toBig(one).Int64() != 1 {
		t.Error(w, one)
	}
	m, _ := supersingular.Mass(37)
	overwrite(m.Num)
	if toBig(m.Den).Int64() != 1 {
		t.Error("a numerator shares memory with its denominator")
	}
}
