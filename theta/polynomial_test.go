package theta_test

import (
	"math"
	"math/big"
	"math/rand"
	"slices"
	"strconv"
	"testing"

	"halfplane/api"
	"halfplane/theta"
)

// term returns a monomial.
func term(c int64, exps ...int) api.Monomial {
	return api.Monomial{Exps: exps, Coef: whole(c)}
}

// randomPolynomial returns monomials, of one degree often, and some of them more than once.
func randomPolynomial(r *rand.Rand, rank int) []api.Monomial {
	var p []api.Monomial
	degree := r.Intn(4)
	for range r.Intn(6) {
		m := api.Monomial{Exps: make([]int, rank), Coef: fromRat(big.NewRat(int64(r.Intn(9)-4), int64(r.Intn(3)+1)))}
		for range degree + r.Intn(8)/7 {
			m.Exps[r.Intn(rank)]++
		}
		p = append(p, m)
		if r.Intn(4) == 0 {
			m.Coef = api.Rat{Num: api.Int{Neg: true, Mag: []uint32{6, 0}}, Den: api.Int{Neg: true, Mag: []uint32{4}}}
			p = append(p, m)
		}
	}
	return p
}

// collected returns the sums of the coefficients of the same monomials, by their
// exponents in decimal.
func collected(p []api.Monomial) map[string]*big.Rat {
	f := map[string]*big.Rat{}
	for _, m := range p {
		add(f, m.Exps, toRat(m.Coef))
	}
	return f
}

// add adds a monomial.
func add(f map[string]*big.Rat, exps []int, c *big.Rat) {
	key := ""
	for _, x := range exps {
		key += strconv.Itoa(x)
	}
	if f[key] == nil {
		f[key] = new(big.Rat)
	}
	f[key].Add(f[key], c)
}

// isHarmonic follows the definition.
func isHarmonic(g api.Gram, p []api.Monomial) bool {
	degrees := map[int]bool{}
	for key, c := range collected(p) {
		degree := 0
		for _, digit := range key {
			degree += int(digit - '0')
		}
		if c.Sign() != 0 {
			degrees[degree] = true
		}
	}
	inverse, _ := invert(g.Rank, g.A)
	image := map[string]*big.Rat{}
	for _, m := range p {
		for i := range g.Rank {
			for j := range g.Rank {
				exps, c := derived(m.Exps, toRat(m.Coef), i)
				exps, c = derived(exps, c, j)
				add(image, exps, c.Mul(c, inverse[i][j]))
			}
		}
	}
	for _, c := range image {
		if c.Sign() != 0 {
			return false
		}
	}
	return len(degrees) <= 1
}

// derived returns the derivative of a monomial by a variable.
func derived(exps []int, c *big.Rat, i int) ([]int, *big.Rat) {
	d := new(big.Rat).Mul(c, big.NewRat(int64(exps[i]), 1))
	l := slices.Clone(exps)
	l[i] = max(0, l[i]-1)
	return l, d
}

func TestHarmonic(t *testing.T) { // P36.6
	r := rand.New(rand.NewSource(371))
	for range 1000 {
		g := random(r, 1+r.Intn(4), 2)
		if r.Intn(2) == 0 {
			g = diagonal(slices.Repeat([]int{2}, g.Rank)...)
		}
		p := randomPolynomial(r, g.Rank)
		if got, e := theta.Harmonic(g, p); e != api.OK || got != isHarmonic(g, p) {
			t.Errorf("Harmonic(%v, %v): %v, %d", g, p, got, e)
		}
	}
	square, hexagon := diagonal(2, 2), of(2, 1, 1, 2)
	for _, c := range []struct {
		g    api.Gram
		p    []api.Monomial
		want bool
	}{
		{square, nil, true},
		{square, []api.Monomial{term(5, 0, 0)}, true},
		{square, []api.Monomial{term(1, 1, 0), term(2, 0, 1)}, true},
		{square, []api.Monomial{term(1, 1, 1)}, true},
		{square, []api.Monomial{term(1, 2, 0), term(-1, 0, 2)}, true},
		{square, []api.Monomial{term(1, 2, 0), term(1, 0, 2)}, false},
		{square, []api.Monomial{term(1, 4, 0), term(-6, 2, 2), term(1, 0, 4)}, true},
		{square, []api.Monomial{term(1, 4, 0), term(-6, 2, 2), term(2, 0, 4), term(-1, 0, 4)}, true},
		{square, []api.Monomial{term(1, 1, 1), term(1, 1, 0)}, false},
		{square, []api.Monomial{term(1, 1, 1), term(1, 1, 0), term(-1, 1, 0)}, true},
		{square, []api.Monomial{term(1, 1, 1), term(0, 6, 6)}, true},
		{square, []api.Monomial{term(1, 1, 1), {Exps: []int{5, 0}}}, true},
		{hexagon, []api.Monomial{term(1, 1, 1)}, false},
		{hexagon, []api.Monomial{term(1, 2, 0), term(1, 1, 1), term(0, 0, 2)}, false},
		{hexagon, []api.Monomial{term(1, 2, 0), term(-1, 0, 2)}, true},
		{hexagon, []api.Monomial{term(1, 2, 0), term(2, 1, 1)}, true},
		{of(2), []api.Monomial{term(1, 1)}, true},
		{of(2), []api.Monomial{term(1, 2)}, false},
		{eight(), []api.Monomial{term(1, 1, 0, 0, 0, 0, 0, 0, 0)}, true},
	} {
		if got, e := theta.Harmonic(c.g, c.p); e != api.OK || got != c.want || got != isHarmonic(c.g, c.p) {
			t.Errorf("Harmonic(%v, %v): %v, %d", c.g, c.p, got, e)
		}
	}
}

func TestPolynomialErrors(t *testing.T) { // P36.4, P36.6
	g := diagonal(2, 2)
	for _, c := range []struct {
		p    []api.Monomial
		want api.Errno
	}{
		{slices.Repeat([]api.Monomial{{}}, 61), api.ErrLarge},
		{slices.Repeat([]api.Monomial{{}}, 60), api.ErrShape},
		{[]api.Monomial{term(1, 1)}, api.ErrShape},
		{[]api.Monomial{term(1, 9, 9, 9)}, api.ErrShape},
		{[]api.Monomial{term(1, 7, 0)}, api.ErrRange},
		{[]api.Monomial{term(1, 0, -1)}, api.ErrRange},
		{[]api.Monomial{term(1, math.MinInt, math.MaxInt)}, api.ErrRange},
		{[]api.Monomial{term(1, 6, 0), term(1, 7, 0), term(1, 1)}, api.ErrRange},
		{[]api.Monomial{term(1, 6, 0), term(1, 1), term(1, 7, 0)}, api.ErrShape},
	} {
		yes, e := theta.Harmonic(g, c.p)
		expectError(t, "Harmonic", yes, e, c.want)
		a, e := theta.Weighted(g, c.p, 1000)
		expectError(t, "Weighted", a, e, c.want)
		for _, prec := range []int{-1, 1001, math.MinInt, math.MaxInt} {
			a, e := theta.Weighted(g, c.p, prec)
			expectError(t, "Weighted", a, e, api.ErrRange)
		}
	}
	if yes, e := theta.Harmonic(g, slices.Repeat([]api.Monomial{term(1, 6, 6)}, 60)); e != api.OK || yes {
		t.Errorf("Harmonic: %v, %d", yes, e)
	}
	// The error of the polynomial comes before that of the box.
	a, e := theta.Weighted(diagonal(2, 2, 2, 2, 2, 2), []api.Monomial{{}}, 1000)
	expectError(t, "Weighted", a, e, api.ErrShape)
	a, e = theta.Weighted(diagonal(2, 2, 2, 2, 2, 2), nil, 1000)
	expectError(t, "Weighted", a, e, api.ErrLarge)
}

// valueAt returns the value of a polynomial.
func valueAt(p []api.Monomial, x []int) *big.Rat {
	sum := new(big.Rat)
	for _, m := range p {
		value := toRat(m.Coef)
		for i, n := range m.Exps {
			power := new(big.Int).Exp(big.NewInt(int64(x[i])), big.NewInt(int64(n)), nil)
			value.Mul(value, new(big.Rat).SetInt(power))
		}
		sum.Add(sum, value)
	}
	return sum
}

// checkWeighted compares a theta series with the sum over all vectors.
func checkWeighted(t *testing.T, g api.Gram, p []api.Monomial, prec int) {
	t.Helper()
	coef := make([]*big.Rat, prec)
	vectors := vectorsUpTo(g, max(0, prec-1))
	for n := range coef {
		coef[n] = new(big.Rat)
		for _, x := range vectors[n] {
			coef[n].Add(coef[n], valueAt(p, x))
		}
	}
	if got, e := theta.Weighted(g, p, prec); e != api.OK || !alike(got, written(coef)) {
		t.Errorf("Weighted(%v, %v, %d): %v, %d; want %v", g, p, prec, got, e, coef)
	}
}

func TestWeighted(t *testing.T) { // P36.4
	r := rand.New(rand.NewSource(372))
	for range 200 {
		g := random(r, 1+r.Intn(3), 2)
		checkWeighted(t, g, randomPolynomial(r, g.Rank), r.Intn(9))
	}
	four := []api.Monomial{term(1, 4, 0), term(-6, 2, 2), term(1, 0, 4)}
	got, e := theta.Weighted(diagonal(2, 2), four, 3)
	if e != api.OK || !alike(got, written(integers(0, 4, -16))) {
		t.Errorf("Weighted: %v, %d", got, e)
	}
	// Without harmonic polynomials, too; and with values beyond machine integers.
	checkWeighted(t, diagonal(2, 2), []api.Monomial{term(1, 2, 0), term(1, 0, 1), term(7, 0, 0)}, 30)
	checkWeighted(t, diagonal(2, 2), []api.Monomial{term(3, 6, 6), term(-1, 5, 5), term(1, 6, 4)}, 700)
	checkWeighted(t, needle(t), []api.Monomial{term(1, 6, 6, 6), term(1, 5, 6, 6), term(-2, 3, 5, 1)}, 12)
	checkWeighted(t, of(2), []api.Monomial{term(1, 6)}, 1000)
	checkWeighted(t, of(2), []api.Monomial{term(1, 0)}, 0)
	// An odd polynomial has the sum 0.
	got, e = theta.Weighted(rootLattice(3), []api.Monomial{term(1, 1, 2, 0)}, 20)
	if e != api.OK || got.From != 20 || len(got.Coef) != 0 {
		t.Errorf("Weighted by an odd polynomial: %v, %d", got, e)
	}
}
