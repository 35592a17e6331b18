package quasimodular_test

import (
	"math"
	"math/big"
	"math/rand"
	"testing"

	"halfplane/api"
	"halfplane/quasimodular"
	"halfplane/series"
)

// expanded returns the expansion of a polynomial, term by term and factor by factor.
func expanded(p polynomial, prec int) laurent {
	sum := from(0, prec, func(int) *big.Rat { return new(big.Rat) })
	e := [3]laurent{eisenstein(2, prec), eisenstein(4, prec), eisenstein(6, prec)}
	for m, c := range p {
		product := from(0, prec, func(n int) *big.Rat { return new(big.Rat) })
		if prec > 0 {
			product.coef[0] = c
		}
		for i := range m {
			for range m[i] {
				product = times(product, e[i])
			}
		}
		for n := range prec {
			sum.coef[n] = new(big.Rat).Add(sum.at(n), product.at(n))
		}
	}
	return sum
}

func TestExpansion(t *testing.T) { // P38.3
	r := rand.New(rand.NewSource(386))
	for _, prec := range []int{0, 1, 2, 5, 9} {
		for range 8 {
			p := randomPoly(r, 8, 60)
			a, e := quasimodular.Expansion(p, prec)
			expect(t, "Expansion", a, e, expanded(readPoly(p), prec))
		}
		for _, p := range limits() {
			a, e := quasimodular.Expansion(p, prec)
			expect(t, "Expansion", a, e, expanded(readPoly(p), prec))
		}
	}
	for _, p := range []api.QuasiPoly{{term(1, 1, 2, 1, 1), term(2, 3, 0, 2, 0)}, {term(1, 1728, 0, 3, 0), term(-1, 1728, 0, 0, 2)}} {
		a, e := quasimodular.Expansion(p, 60)
		expect(t, "Expansion", a, e, expanded(readPoly(p), 60))
	}
	for _, prec := range []int{math.MinInt, -1, 1001, math.MaxInt} {
		a, e := quasimodular.Expansion(nil, prec)
		expectError(t, "Expansion", a, e, api.ErrRange)
	}
}

func TestWholeExpansion(t *testing.T) { // P38.3: up to MaxPrec
	a, e := quasimodular.Expansion(api.QuasiPoly{term(1, 2, 1, 0, 0), term(3, 1, 0, 1, 0)}, 1000)
	e2, e4 := eisenstein(2, 1000), eisenstein(4, 1000)
	expect(t, "Expansion", a, e, from(0, 1000, func(n int) *big.Rat {
		x := new(big.Rat).Mul(big.NewRat(1, 2), e2.at(n))
		return x.Add(x, new(big.Rat).Mul(big.NewRat(3, 1), e4.at(n)))
	}))
	// E4^2 = E8.
	a, e = quasimodular.Expansion(api.QuasiPoly{term(1, 1, 0, 2, 0)}, 1000)
	expect(t, "Expansion", a, e, from(0, 1000, func(n int) *big.Rat {
		if n == 0 {
			return big.NewRat(1, 1)
		}
		return new(big.Rat).SetInt(new(big.Int).Mul(big.NewInt(480), sigma(7, n)))
	}))
}

// monomials returns the monomials of a weight and a depth, in order.
func monomials(k, depth int) [][3]int {
	var l [][3]int
	for a := 0; a <= depth; a++ {
		for b := 0; b <= k; b++ {
			for c := 0; c <= k; c++ {
				if 2*a+4*b+6*c == k {
					l = append(l, [3]int{a, b, c})
				}
			}
		}
	}
	return l
}

// rank returns the rank of the first coefficients of the expansions of monomials, modulo
// a prime, at which it is not less in these tests.
func rank(l []laurent, prec int) int {
	const p = 1<<31 - 1
	var rows [][]int64
	for _, f := range l {
		row := make([]int64, prec)
		for n := range prec {
			row[n] = new(big.Int).Mod(f.at(n).Num(), big.NewInt(p)).Int64()
		}
		rows = append(rows, row)
	}
	count := 0
	for col := range prec {
		for i := count; i < len(rows); i++ {
			if rows[i][col] == 0 {
				continue
			}
			rows[count], rows[i] = rows[i], rows[count]
			inverse := new(big.Int).ModInverse(big.NewInt(rows[count][col]), big.NewInt(p)).Int64()
			for j := count + 1; j < len(rows); j++ {
				factor := rows[j][col] * inverse % p
				for k := range prec {
					rows[j][k] = (rows[j][k] + (p-factor)*rows[count][k]) % p
				}
			}
			count++
			break
		}
	}
	return count
}

func TestFit(t *testing.T) { // P38.3
	r := rand.New(rand.NewSource(387))
	for k := range 23 {
		for _, depth := range []int{0, 1, 2, 5, 30} {
			l := monomials(k, depth)
			p := polynomial{}
			for _, m := range l {
				p[m] = toRat(randomRat(r))
			}
			var basis []laurent
			for _, m := range l {
				basis = append(basis, expanded(polynomial{m: big.NewRat(1, 1)}, len(l)+3))
			}
			for prec := max(0, len(l)-3); prec <= len(l)+3; prec++ {
				a, _ := write(expanded(p, prec))
				got, e := quasimodular.Fit(a, k, depth)
				if rank(basis, prec) < len(l) {
					expectError(t, "Fit", got, e, api.ErrPrec)
				} else {
					expectPoly(t, "Fit", got, e, p)
				}
			}
		}
	}
}

func TestFitErrors(t *testing.T) { // P38.3
	e8 := of(0, 1, 480, 480*129, 480*2188)
	wrong := of(0, 1, 480, 480*129, 480*2188+1)
	for _, c := range []struct {
		a        api.Series
		k, depth int
		want     api.Errno
	}{
		{e8, 8, 0, api.OK}, {wrong, 8, 0, api.ErrMember}, {e8, 8, 1, api.OK}, {e8, 8, 4, api.OK}, {of(0, 1, 480, 480*129), 8, 4, api.ErrPrec}, {wrong, 8, 1, api.ErrMember},
		{e8, 10, 0, api.ErrMember}, {e8, 7, 3, api.ErrMember}, {of(0, 0, 0, 0), 7, 3, api.OK}, {of(0, 0, 0, 0), 2, 0, api.OK},
		{of(0, 0, 0, 1), 2, 0, api.ErrMember}, {of(0), 2, 0, api.OK}, {of(-4), 2, 0, api.OK}, {of(-4, 0, 0), 2, 0, api.OK},
		{of(-4, 0, 1), 2, 0, api.ErrMember}, {of(-4, 0, 1), 2, 1, api.ErrPrec}, {of(0), 0, 0, api.ErrPrec}, {of(-3), 0, 0, api.ErrPrec},
		{of(0, 7), 0, 0, api.OK}, {of(0, 7, 0), 0, 30, api.OK}, {of(0, 7, 1), 0, 30, api.ErrMember}, {of(-1, 1, 7), 0, 0, api.ErrMember},
		{of(-1, 0, 7), 0, 0, api.OK}, {of(5), 4, 0, api.OK}, {of(5), 60, 30, api.ErrPrec}, {of(-100, 1), 60, 30, api.ErrPrec},
		{e8, -1, 0, api.ErrRange}, {e8, 61, 0, api.ErrRange}, {e8, math.MinInt, 0, api.ErrRange}, {e8, math.MaxInt, 0, api.ErrRange},
		{e8, 8, -1, api.ErrRange}, {e8, 8, 31, api.ErrRange}, {e8, 8, math.MaxInt, api.ErrRange}, {of(-101), 8, 0, api.ErrRange},
		{e8, 60, 30, api.ErrPrec}, {e8, 59, 30, api.ErrMember}, {of(0, 0, 0, 0, 0, 0, 0, 0, 5), 12, 0, api.ErrMember},
	} {
		got, e := quasimodular.Fit(c.a, c.k, c.depth)
		if c.want != api.OK {
			expectError(t, "Fit", got, e, c.want)
		} else if e != api.OK {
			t.Errorf("Fit of %v, %d, %d: %d", show(c.a), c.k, c.depth, e)
		} else if b, _ := quasimodular.Expansion(got, max(c.a.From+len(c.a.Coef), 0)); differ(b, c.a) {
			t.Errorf("Fit of %v: %v", show(c.a), showPoly(got))
		}
	}
	for _, a := range invalid() {
		got, e := quasimodular.Fit(a, 8, 0)
		expectError(t, "Fit", got, e, api.ErrRange)
	}
	got, e := quasimodular.Fit(of(0, 1, 480), 8, 0)
	expectPoly(t, "Fit", got, e, polynomial{{0, 2, 0}: big.NewRat(1, 1)})
}

// differ reports whether two series have different coefficients below both precisions.
func differ(a, b api.Series) bool {
	_, yes, _ := series.Differ(a, b)
	return yes
}

func TestFitOfAllMonomials(t *testing.T) { // P38.3, P38.5: the greatest weight and depth
	r := rand.New(rand.NewSource(388))
	p := homogeneous(r, 60)
	for _, prec := range []int{120, 91} {
		a, _ := quasimodular.Expansion(p, prec)
		got, e := quasimodular.Fit(a, 60, 30)
		expectPoly(t, "Fit", got, e, readPoly(p))
	}
	a, _ := quasimodular.Expansion(p, 120)
	a.Coef[119] = fraction(1, 7)
	got, e := quasimodular.Fit(a, 60, 30)
	expectError(t, "Fit", got, e, api.ErrMember)
	a, _ = quasimodular.Expansion(p, 90)
	got, e = quasimodular.Fit(a, 60, 30) // there are 91 monomials
	expectError(t, "Fit", got, e, api.ErrPrec)
}

func TestSerreSeries(t *testing.T) { // P38.4
	r := rand.New(rand.NewSource(389))
	e2 := eisenstein(2, 1000)
	long := api.Series{From: -30, Coef: make([]api.Rat, 1030)}
	long.Coef[0], long.Coef[1029] = fraction(2, 1), fraction(5, 7)
	for _, a := range append(valid(), random(r, 40), random(r, 40), random(r, 40), long) {
		for _, k := range []int{0, 1, 2, 12, 59, 60} {
			got, e := quasimodular.SerreSeries(a, k)
			f := read(a)
			o := f.order()
			want := from(o, min(f.prec, 1000+o), func(n int) *big.Rat {
				x := new(big.Rat).Mul(big.NewRat(int64(n), 1), f.at(n))
				sum := new(big.Rat)
				for m := o; m <= n; m++ {
					if f.at(m).Sign() != 0 {
						sum.Add(sum, new(big.Rat).Mul(e2.at(n-m), f.at(m)))
					}
				}
				return x.Sub(x, sum.Mul(sum, big.NewRat(int64(k), 12)))
			})
			expect(t, "SerreSeries", got, e, want)
		}
		for _, k := range []int{-1, 61, math.MinInt, math.MaxInt} {
			got, e := quasimodular.SerreSeries(a, k)
			expectError(t, "SerreSeries", got, e, api.ErrRange)
		}
	}
	for _, a := range invalid() {
		got, e := quasimodular.SerreSeries(a, 4)
		expectError(t, "SerreSeries", got, e, api.ErrRange)
	}
}

// theta returns q df/dq.
func theta(f laurent) laurent {
	return from(f.order(), f.prec, func(n int) *big.Rat { return new(big.Rat).Mul(big.NewRat(int64(n), 1), f.at(n)) })
}

// bracketOf returns the bracket of series.
func bracketOf(f, g laurent, k, l, n int) laurent {
	prec := times(f, g).prec
	sum := laurent{coef: map[int]*big.Rat{}, prec: prec}
	for r := range n + 1 {
		x, y := f, g
		for range r {
			x = theta(x)
		}
		for range n - r {
			y = theta(y)
		}
		product := times(x, y)
		for _, m := range product.known() {
			if m < prec {
				sum.coef[m] = new(big.Rat).Add(sum.at(m), new(big.Rat).Mul(factor(k, l, n, r), product.at(m)))
			}
		}
	}
	return sum
}

func TestBracketSeries(t *testing.T) { // P38.4
	r := rand.New(rand.NewSource(390))
	for range 60 {
		a, b := random(r, 12), random(r, 12)
		k, l, n := r.Intn(61), r.Intn(61), r.Intn(7)
		got, e := quasimodular.BracketSeries(api.Weighted{Series: a, Weight: k}, api.Weighted{Series: b, Weight: l}, n)
		expect(t, "BracketSeries", got, e, bracketOf(read(a), read(b), k, l, n))
	}
	// The derivatives have no constant terms, but the precision is that of the product.
	for _, c := range [][2]api.Series{
		{of(0, 1, 0, 0, 0, 0), of(0, 1, 0, 0)}, {of(0, 1, 2, 3), of(0, 5, 0, 0, 0, 0)}, {of(-1, 1, 0, 0), of(2, 1, 5, 6, 7)},
		{of(0, 0, 0), of(0, 1, 2, 3)}, {of(3), of(-2)}, {of(-100, 1, 2), of(0, 1, 2)}, {of(-50, 1, 2), of(-50, 1)},
	} {
		for n := range 7 {
			got, e := quasimodular.BracketSeries(api.Weighted{Series: c[0], Weight: 4}, api.Weighted{Series: c[1], Weight: 6}, n)
			expect(t, "BracketSeries", got, e, bracketOf(read(c[0]), read(c[1]), 4, 6, n))
		}
	}
	one, _ := series.Monomial(fraction(1, 1), 3, 1000)
	got, e := quasimodular.BracketSeries(api.Weighted{Series: one, Weight: 4}, api.Weighted{Series: one, Weight: 5}, 1)
	expect(t, "BracketSeries", got, e, bracketOf(read(one), read(one), 4, 5, 1))
}

func TestBracketSeriesErrors(t *testing.T) { // P38.4
	good := api.Weighted{Series: of(0, 1, 2), Weight: 4}
	for _, c := range []struct {
		a, b api.Weighted
		n    int
	}{
		{good, good, -1}, {good, good, 7}, {good, good, math.MinInt}, {good, good, math.MaxInt},
		{good, api.Weighted{Series: of(0, 1, 2), Weight: -1}, 1}, {good, api.Weighted{Series: of(0, 1, 2), Weight: 61}, 1},
		{api.Weighted{Series: of(0, 1, 2), Weight: -1}, good, 1}, {api.Weighted{Series: of(0, 1, 2), Weight: 61}, good, 1},
		{api.Weighted{Series: of(-51, 1, 2), Weight: 2}, api.Weighted{Series: of(-50, 1, 2), Weight: 2}, 1},
		{api.Weighted{Series: of(-51), Weight: 2}, api.Weighted{Series: of(-50, 1, 2), Weight: 2}, 0},
	} {
		got, e := quasimodular.BracketSeries(c.a, c.b, c.n)
		expectError(t, "BracketSeries", got, e, api.ErrRange)
	}
	for _, a := range invalid() {
		got, e := quasimodular.BracketSeries(good, api.Weighted{Series: a, Weight: 4}, 1)
		expectError(t, "BracketSeries", got, e, api.ErrRange)
		got, e = quasimodular.BracketSeries(api.Weighted{Series: a, Weight: 4}, good, 1)
		expectError(t, "BracketSeries", got, e, api.ErrRange)
	}
}

func TestExpansionConsequences(t *testing.T) { // P38.5
	r := rand.New(rand.NewSource(391))
	expand := func(p api.QuasiPoly, e api.Errno) api.Series {
		t.Helper()
		a, f := quasimodular.Expansion(p, 12)
		if e != api.OK || f != api.OK {
			t.Fatal(e, f)
		}
		return a
	}
	same := func(name string, a api.Series) func(b api.Series, e api.Errno) {
		return func(b api.Series, e api.Errno) {
			t.Helper()
			if e != api.OK || differ(a, b) {
				t.Errorf("%s: %v, not %v", name, show(a), show(b))
			}
		}
	}
	for range 12 {
		k, l, n := 2*r.Intn(7), 2*r.Intn(7), r.Intn(7)
		p, q := homogeneous(r, k), homogeneous(r, l)
		a, b := expand(p, api.OK), expand(q, api.OK)
		same("sum", expand(quasimodular.Add(p, q)))(series.Add(a, b))
		same("product", expand(quasimodular.Mul(p, q)))(series.Mul(a, b))
		same("derivative", expand(quasimodular.Derive(p)))(series.Theta(a))
		same("Serre's derivative", expand(quasimodular.Serre(p)))(quasimodular.SerreSeries(a, k))
		x, y := api.Weighted{Series: a, Weight: k}, api.Weighted{Series: b, Weight: l}
		same("bracket", expand(quasimodular.Bracket(p, q, n)))(quasimodular.BracketSeries(x, y, n))
		got, e := quasimodular.Fit(a, k, 30)
		expectPoly(t, "Fit of an expansion", got, e, readPoly(p))
	}
}
