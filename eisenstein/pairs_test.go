package eisenstein_test

import (
	"math"
	"math/big"
	"math/rand"
	"reflect"
	"slices"
	"testing"

	"halfplane/api"
	"halfplane/dimension"
	"halfplane/dirichlet"
	"halfplane/eisenstein"
)

// trivial returns the pair of trivial characters at t.
func trivial(t int) api.EisPair {
	return api.EisPair{Chi: api.Character{Modulus: 1}, Psi: api.Character{Modulus: 1}, T: t}
}

// same reports whether two pairs are equal.
func same(p, q api.EisPair) bool {
	return p.T == q.T && sameCharacter(p.Chi, q.Chi) && sameCharacter(p.Psi, q.Psi)
}

// sameCharacter reports whether two characters are equal.
func sameCharacter(x, y api.Character) bool {
	return x.Modulus == y.Modulus && slices.Equal(x.Exps, y.Exps)
}

// checkPairs compares the pairs of a space with those that are wanted.
func checkPairs(t *testing.T, s api.Spec, want ...api.EisPair) {
	t.Helper()
	got, e := eisenstein.Pairs(s)
	if e != api.OK || !slices.EqualFunc(got, want, same) {
		t.Errorf("Pairs(%v): %v, %d; want %v", s, got, e, want)
	}
}

// angle returns the value of a character as a multiple of 1/m of a circle, and whether it
// is not 0.
func angle(x api.Character, a, m int) (int, bool) {
	v, _ := dirichlet.Value(x, a)
	if v.Zero {
		return 0, false
	}
	return v.Num * m / v.Den, true
}

// primitives returns the primitive characters modulo u.
func primitives(u int) []api.Character {
	all, _ := dirichlet.All(u)
	return slices.DeleteFunc(all, func(x api.Character) bool {
		f, _ := dirichlet.Conductor(x)
		return f != u
	})
}

// fits reports whether the product of two characters is the character of the space.
func fits(chi, psi api.Character, s api.Spec) bool {
	const circle = 4 * 3 * 5 * 7 * 11 * 13 * 17 * 19 * 23 * 29 * 9
	for n := 1; n < s.Level; n++ {
		if gcd(n, s.Level) != 1 {
			continue
		}
		x, _ := angle(chi, n, circle)
		y, _ := angle(psi, n, circle)
		want := (1 - int(symbol(s.Disc, n))) / 2 * circle / 2
		if (x+y)%circle != want {
			return false
		}
	}
	return true
}

// conjugates reports whether the characters of q are powers of those of p.
func conjugates(p, q api.EisPair) bool {
	m, _ := dirichlet.Order(p.Chi)
	n, _ := dirichlet.Order(p.Psi)
	m *= n / gcd(m, n)
	for j := 1; j <= m; j++ {
		if gcd(j, m) == 1 && sameCharacter(powerOf(p.Chi, j), q.Chi) && sameCharacter(powerOf(p.Psi, j), q.Psi) {
			return p.T == q.T
		}
	}
	return false
}

// powerOf returns the j-th power of a character.
func powerOf(x api.Character, j int) api.Character {
	_, orders, _ := dirichlet.Generators(x.Modulus)
	y := api.Character{Modulus: x.Modulus}
	for i, n := range x.Exps {
		y.Exps = append(y.Exps, n*j%orders[i])
	}
	return y
}

// pairsOf returns the pairs of a space by their definition.
func pairsOf(s api.Spec) []api.EisPair {
	var l []api.EisPair
	for u := 1; u <= 60; u++ {
		for _, chi := range primitives(u) {
			for v := 1; v <= 60 && u*v <= s.Level; v++ {
				if s.Level%(u*v) != 0 {
					continue
				}
				for _, psi := range primitives(v) {
					if fits(chi, psi, s) {
						l = append(l, atDivisors(chi, psi, s)...)
					}
				}
			}
		}
	}
	var first []api.EisPair
	for _, p := range l {
		if !slices.ContainsFunc(first, func(q api.EisPair) bool { return conjugates(p, q) }) {
			first = append(first, p)
		}
	}
	return first
}

// atDivisors returns the pairs of two characters at all t that are possible.
func atDivisors(chi, psi api.Character, s api.Spec) []api.EisPair {
	var l []api.EisPair
	n := s.Level / (chi.Modulus * psi.Modulus)
	for t := 1; t <= n; t++ {
		if n%t == 0 && (s.Weight > 2 || chi.Modulus*psi.Modulus*t > 1) {
			l = append(l, api.EisPair{Chi: chi, Psi: psi, T: t})
		}
	}
	return l
}

// specs returns the spaces of a level with a small weight.
func specs(level int) []api.Spec {
	var l []api.Spec
	for _, d := range discriminants() {
		for k := 2; k <= 5; k++ {
			if s := (api.Spec{Level: level, Weight: k, Disc: d}); dimension.Check(s) == api.OK {
				l = append(l, s)
			}
		}
	}
	return l
}

func TestPairs(t *testing.T) { // P34.4
	for _, level := range []int{1, 2, 3, 4, 5, 8, 9, 12, 16, 18, 20, 24, 25, 27, 36, 40, 48, 49, 50, 60, 63, 64, 65, 72, 75, 80, 81, 98, 100, 108, 112, 117, 119, 120} {
		for _, s := range specs(level) {
			if s.Weight < 4 || level < 30 {
				checkPairs(t, s, pairsOf(s)...)
			}
		}
	}
}

func TestPairsErrors(t *testing.T) { // P34.4, P34.5
	check := func(s api.Spec, prec int, want api.Errno) {
		t.Helper()
		got, e := eisenstein.Pairs(s)
		expectError(t, "Pairs", got, e, want)
		l, e := eisenstein.Basis(s, prec)
		expectError(t, "Basis", l, e, want)
	}
	for _, s := range []api.Spec{
		{}, {Level: 121, Weight: 2, Disc: 1}, {Level: 11, Weight: 1, Disc: 1}, {Level: 11, Weight: 25, Disc: 1},
		{Level: math.MinInt, Weight: math.MaxInt, Disc: math.MinInt}, {Level: 12, Weight: 2, Disc: 4}, {Level: 12, Weight: 2, Disc: 5},
		{Level: 12, Weight: 3, Disc: 1}, {Level: 12, Weight: 2, Disc: -4}, {Level: 120, Weight: 24, Disc: 1},
	} {
		check(s, -1, dimension.Check(s))
	}
	for _, s := range []api.Spec{{Level: 61, Weight: 2, Disc: 61}, {Level: 67, Weight: 3, Disc: -67}, {Level: 120, Weight: 2, Disc: 120}} {
		check(s, -1, api.ErrLarge)
	}
	for _, prec := range outside(0, 1000) {
		l, e := eisenstein.Basis(api.Spec{Level: 11, Weight: 2, Disc: 1}, prec)
		expectError(t, "Basis", l, e, api.ErrRange)
	}
}

func TestDimension(t *testing.T) { // P34.6
	for level := 1; level <= 120; level++ {
		for _, s := range specs(level) {
			want, _ := dimension.Eisenstein(s)
			if l, e := eisenstein.Basis(s, 1); e != api.OK || len(l) != want {
				t.Errorf("Basis(%v): %d elements, %d; want %d", s, len(l), e, want)
			}
		}
	}
}

// image maps the field of the m-th roots of unity to the residues modulo a prime.
type image struct {
	prime *big.Int
	root  *big.Int
	m     int
}

// images returns the maps that differ by the root of unity.
func images(m int) []image {
	p := 1000*m + 1
	for !big.NewInt(int64(p)).ProbablyPrime(20) {
		p += m
	}
	prime := big.NewInt(int64(p))
	var l []image
	for g := int64(2); len(l) == 0; g++ {
		root := new(big.Int).Exp(big.NewInt(g), big.NewInt(int64((p-1)/m)), prime)
		f := image{prime: prime, root: root, m: m}
		if f.order() != m {
			continue
		}
		for j := 1; j <= m; j++ {
			if gcd(j, m) == 1 {
				l = append(l, image{prime: prime, root: f.zeta(j), m: m})
			}
		}
	}
	return l
}

// order returns the order of the root.
func (f image) order() int {
	j := 1
	for f.zeta(j).Cmp(big.NewInt(1)) != 0 {
		j++
	}
	return j
}

// zeta returns the image of the j-th power of zeta.
func (f image) zeta(j int) *big.Int {
	return new(big.Int).Exp(f.root, big.NewInt(int64(j)), f.prime)
}

// rat returns the image of a fraction.
func (f image) rat(x *big.Rat) *big.Int {
	y := new(big.Int).ModInverse(x.Denom(), f.prime)
	return y.Mod(y.Mul(y, x.Num()), f.prime)
}

// value returns the image of the value of a character.
func (f image) value(x api.Character, a int) *big.Int {
	j, ok := angle(x, a, f.m)
	if !ok {
		return new(big.Int)
	}
	return f.zeta(j)
}

// coefficient returns the image of a coefficient of the series of a pair at 1.
func (f image) coefficient(k int, p api.EisPair, n int) *big.Int {
	sum := new(big.Int)
	for d := 1; d <= n; d++ {
		if n%d == 0 {
			x := new(big.Int).Mul(f.value(p.Chi, n/d), f.value(p.Psi, d))
			sum.Add(sum, x.Mul(x, power(d, k-1)))
		}
	}
	if v := p.Psi.Modulus; n == 0 && p.Chi.Modulus == 1 {
		for a := 1; a <= v; a++ {
			x := bernoulliAt(k, big.NewRat(int64(a), int64(v)))
			x.Mul(x, big.NewRat(-1, int64(2*k)))
			x.Mul(x, new(big.Rat).SetInt(power(v, k-1)))
			sum.Add(sum, new(big.Int).Mul(f.rat(x), f.value(p.Psi, a)))
		}
	}
	return sum.Mod(sum, f.prime)
}

// coefficients returns the images of the coefficients of the series of a pair.
func (f image) coefficients(k int, p api.EisPair, prec int) []*big.Int {
	l := make([]*big.Int, prec)
	for n := range l {
		l[n] = new(big.Int)
		if n%p.T == 0 {
			l[n] = f.coefficient(k, p, n/p.T)
		}
		if k == 2 && p.Chi.Modulus == 1 && p.Psi.Modulus == 1 {
			l[n].Sub(f.coefficient(k, p, n), l[n].Mul(l[n], big.NewInt(int64(p.T))))
		}
		l[n].Mod(l[n], f.prime)
	}
	return l
}

// checkSeries compares the coordinates of a pair with the definition, in images of its
// field that are sufficiently many.
func checkSeries(t *testing.T, k int, p api.EisPair, prec int) {
	t.Helper()
	got, e := eisenstein.Series(k, p, prec)
	m, _ := dirichlet.Order(p.Chi)
	n, _ := dirichlet.Order(p.Psi)
	m *= n / gcd(m, n)
	maps := images(m)
	if e != api.OK || len(got) != len(maps) {
		t.Errorf("Series(%d, %v): %d coordinates, %d", k, p, len(got), e)
		return
	}
	for _, a := range got {
		if !alike(a, written(read(a))) || a.From+len(a.Coef) != prec {
			t.Errorf("Series(%d, %v): %v", k, p, a)
		}
	}
	for _, f := range maps {
		for n, want := range f.coefficients(k, p, prec) {
			sum := new(big.Int)
			for i, a := range got {
				sum.Add(sum, new(big.Int).Mul(f.zeta(i), f.rat(read(a)[n])))
			}
			if sum.Mod(sum, f.prime).Cmp(want) != 0 {
				t.Fatalf("Series(%d, %v): coefficient %d of %v", k, p, n, got)
			}
		}
	}
}

func TestSeries(t *testing.T) { // P34.5
	r := rand.New(rand.NewSource(345))
	for range 60 {
		chi, psi := primitives(1), primitives(1)
		for len(chi) <= 1 && r.Intn(3) > 0 {
			chi = primitives(1 + r.Intn(16))
		}
		for len(psi) <= 1 && r.Intn(3) > 0 {
			psi = primitives(1 + r.Intn(16))
		}
		if len(chi) == 0 || len(psi) == 0 {
			continue
		}
		p := api.EisPair{Chi: chi[r.Intn(len(chi))], Psi: psi[r.Intn(len(psi))], T: 1 + r.Intn(3)}
		x, _ := dirichlet.Even(p.Chi)
		y, _ := dirichlet.Even(p.Psi)
		k := 3 + r.Intn(4)
		if (x == y) != (k%2 == 0) {
			k++
		}
		if l, e := eisenstein.Series(k, p, 9); e == api.ErrLarge {
			expectError(t, "Series", l, e, api.ErrLarge)
			continue
		}
		checkSeries(t, k, p, 9)
	}
	eight := api.Character{Modulus: 8, Exps: []int{0, 1}}
	thirteen := api.Character{Modulus: 13, Exps: []int{1}}
	for _, p := range []api.EisPair{trivial(2), trivial(3), {Chi: eight, Psi: eight, T: 1}, {Chi: thirteen, Psi: api.Character{Modulus: 3, Exps: []int{1}}, T: 2}} {
		for _, prec := range []int{0, 1, 7} {
			checkSeries(t, 2, p, prec)
			checkSeries(t, 40, p, prec)
		}
	}
}

func TestSeriesErrors(t *testing.T) { // P34.5
	check := func(k int, p api.EisPair, prec int, want api.Errno) {
		t.Helper()
		got, e := eisenstein.Series(k, p, prec)
		expectError(t, "Series", got, e, want)
	}
	one, none := api.Character{Modulus: 1}, api.Character{}
	shape, form := api.Character{Modulus: 5}, api.Character{Modulus: 5, Exps: []int{4}}
	imprimitive := api.Character{Modulus: 6, Exps: []int{1}}
	odd := api.Character{Modulus: 3, Exps: []int{1}}
	for _, k := range append(outside(2, 40), 1) {
		check(k, api.EisPair{}, -1, api.ErrRange)
	}
	check(2, api.EisPair{Chi: none, Psi: shape}, -1, api.ErrRange)
	check(2, api.EisPair{Chi: shape, Psi: none}, -1, api.ErrShape)
	check(2, api.EisPair{Chi: form, Psi: shape}, -1, api.ErrForm)
	check(2, api.EisPair{Chi: imprimitive, Psi: shape}, -1, api.ErrShape)
	check(2, api.EisPair{Chi: one, Psi: api.Character{Modulus: 61, Exps: []int{0}}}, -1, api.ErrRange)
	check(2, api.EisPair{Chi: imprimitive, Psi: odd}, -1, api.ErrForm)
	check(2, api.EisPair{Chi: one, Psi: imprimitive}, -1, api.ErrForm)
	check(2, api.EisPair{Chi: one, Psi: odd}, -1, api.ErrParity)
	check(3, api.EisPair{Chi: odd, Psi: odd}, -1, api.ErrParity)
	for _, factor := range outside(1, 1000) {
		check(2, trivial(factor), -1, api.ErrRange)
	}
	check(2, trivial(1), -1, api.ErrKind)
	// The order 28 has phi(28) = 12; together with the order 6 it is 84.
	great := api.Character{Modulus: 29, Exps: []int{1}}
	six := api.Character{Modulus: 7, Exps: []int{1}}
	check(4, api.EisPair{Chi: great, Psi: six, T: 0}, -1, api.ErrRange)
	check(4, api.EisPair{Chi: great, Psi: six, T: 1}, -1, api.ErrLarge)
	check(4, api.EisPair{Chi: six, Psi: great, T: 1}, 5, api.ErrLarge)
	check(4, api.EisPair{Chi: api.Character{Modulus: 59, Exps: []int{1}}, Psi: api.Character{Modulus: 53, Exps: []int{1}}, T: 1}, 5, api.ErrLarge)
	for _, prec := range outside(0, 1000) {
		check(3, api.EisPair{Chi: great, Psi: one, T: 1}, prec, api.ErrRange)
		check(2, trivial(2), prec, api.ErrRange)
	}
}

func TestBasis(t *testing.T) { // P34.5
	for _, s := range []api.Spec{{Level: 36, Weight: 2, Disc: 1}, {Level: 49, Weight: 4, Disc: 1}, {Level: 63, Weight: 3, Disc: -3}, {Level: 100, Weight: 2, Disc: 5}} {
		var want []api.Series
		pairs, _ := eisenstein.Pairs(s)
		for _, p := range pairs {
			l, _ := eisenstein.Series(s.Weight, p, 20)
			want = append(want, l...)
		}
		got, e := eisenstein.Basis(s, 20)
		if e != api.OK || !slices.EqualFunc(got, want, alike) {
			t.Errorf("Basis(%v): %v, %d", s, got, e)
		}
		for _, a := range got {
			if a.From+len(a.Coef) != 20 {
				t.Errorf("Basis(%v): %v", s, a)
			}
		}
	}
}

func TestEigenvalues(t *testing.T) { // P34.6
	for _, s := range []api.Spec{{Level: 25, Weight: 4, Disc: 1}, {Level: 27, Weight: 3, Disc: -3}, {Level: 20, Weight: 2, Disc: 5}} {
		pairs, _ := eisenstein.Pairs(s)
		for _, p := range pairs {
			m, _ := dirichlet.Order(p.Chi)
			n, _ := dirichlet.Order(p.Psi)
			l, _ := eisenstein.Series(s.Weight, p, 60)
			for _, f := range images(m * n / gcd(m, n)) {
				checkEigenvalue(t, f, s, p, l, 7)
			}
		}
	}
}

// checkEigenvalue checks that T_q, for a prime q, acts on the series as promised.
func checkEigenvalue(t *testing.T, f image, s api.Spec, p api.EisPair, l []api.Series, q int) {
	t.Helper()
	coef := make([]*big.Int, 60)
	for n := range coef {
		coef[n] = new(big.Int)
		for i, a := range l {
			coef[n].Add(coef[n], new(big.Int).Mul(f.zeta(i), f.rat(read(a)[n])))
		}
	}
	value := new(big.Int).Mul(f.value(p.Psi, q), power(q, s.Weight-1))
	value.Add(value, f.value(p.Chi, q))
	factor := new(big.Int).Mul(big.NewInt(symbol(s.Disc, q)), power(q, s.Weight-1))
	for m := 0; m*q < len(coef); m++ {
		difference := new(big.Int).Mul(value, coef[m])
		difference.Sub(difference, coef[m*q])
		if m%q == 0 {
			difference.Sub(difference, new(big.Int).Mul(factor, coef[m/q]))
		}
		if difference.Mod(difference, f.prime).Sign() != 0 {
			t.Errorf("T_%d on the series of %v in %v, coefficient %d", q, p, s, m)
		}
	}
}

func TestMemory(t *testing.T) { // R3
	s := api.Spec{Level: 100, Weight: 2, Disc: 5}
	pairs, _ := eisenstein.Pairs(s)
	want, _ := eisenstein.Pairs(s)
	for i := range pairs {
		for _, l := range [][]int{pairs[i].Chi.Exps, pairs[i].Psi.Exps} {
			for j := range l {
				l[j] = -5
			}
			pairs[i] = want[i]
			if !slices.EqualFunc(pairs, want, same) {
				t.Errorf("the pairs share memory")
			}
		}
	}
	p := api.EisPair{Chi: api.Character{Modulus: 5, Exps: []int{1}}, Psi: api.Character{Modulus: 5, Exps: []int{3}}, T: 1}
	got, e := eisenstein.Series(2, p, 5)
	if e != api.OK || p.Chi.Exps[0] != 1 || p.Psi.Exps[0] != 3 {
		t.Errorf("Series changes its argument: %v, %d", p, e)
	}
	keep, _ := eisenstein.Series(2, p, 5)
	for i := range got {
		for j := range got[i].Coef {
			got[i].Coef[j] = api.Rat{}
		}
		got[i] = keep[i]
		if !reflect.DeepEqual(got, keep) {
			t.Errorf("the coordinates share memory")
		}
	}
}
