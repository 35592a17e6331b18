package quasimodular

import (
	"halfplane/api"
	"halfplane/eisenstein"
	"halfplane/matrix"
	"halfplane/rational"
	"halfplane/series"
)

// expansion returns the expansion of a normalized p.
//
// The terms with the same powers of E4 and E6 are added up by means of the powers of E2;
// then E4 and E6 are factored out step by step.
func expansion(p api.QuasiPoly, prec int) api.Series {
	e4, e6 := eisensteinSeries(4, prec), eisensteinSeries(6, prec)
	sums := sumsOfPowers(p, prec)
	value := api.Series{From: prec}
	for c := api.KindWeight / 6; c >= 0; c-- {
		part := api.Series{From: prec}
		for b := (api.KindWeight - 6*c) / 4; b >= 0; b-- {
			part = productOf(part, e4)
			if sum, ok := sums[[2]int{b, c}]; ok {
				part = sumOf(part, sum)
			}
		}
		value = sumOf(productOf(value, e6), part)
	}
	return value
}

// sumsOfPowers returns, for each pair of exponents of E4 and E6 in p, the expansion of the
// sum of the terms with these exponents, without the powers of E4 and E6.
func sumsOfPowers(p api.QuasiPoly, prec int) map[[2]int]api.Series {
	depth := 0
	for _, t := range p {
		depth = max(depth, t.A)
	}
	powers := powersOf(2, depth, prec)
	sums := make(map[[2]int]api.Series)
	for _, t := range p {
		multiple, _ := series.Scale(t.Coef, powers[t.A])
		if sum, ok := sums[[2]int{t.B, t.C}]; ok {
			multiple = sumOf(sum, multiple)
		}
		sums[[2]int{t.B, t.C}] = multiple
	}
	return sums
}

// powersOf returns the expansions of the powers of the Eisenstein series of weight k up to
// an exponent.
func powersOf(k, exponent, prec int) []api.Series {
	one, _ := series.Monomial(rational.Of(1), 0, prec)
	powers := []api.Series{one}
	e := eisensteinSeries(k, prec)
	for i := range exponent {
		powers = append(powers, productOf(powers[i], e))
	}
	return powers
}

// fit returns the only combination of the monomials that may have the expansion a, or
// false if the known coefficients are too few for that.
func fit(a api.Series, l [][3]int) (api.QuasiPoly, bool) {
	prec := max(end(a), 0)
	// As a rule, as many coefficients as there are monomials determine the combination.
	for count := min(prec, len(l)); ; count = min(prec, 2*count) {
		p, ok := solution(a, l, count)
		if ok || count == prec {
			return p, ok
		}
	}
}

// solution returns the combination of the monomials that agrees with a in the coefficients
// of q^0 to q^(count-1), if there is one, or false if those of the monomials are dependent.
func solution(a api.Series, l [][3]int, count int) (api.QuasiPoly, bool) {
	columns := append(expansions(l, count), a)
	equations, _ := matrix.New(count, len(columns))
	for i := range equations.A {
		equations.A[i], _ = series.At(columns[i%len(columns)], i/len(columns))
	}
	reduced, pivots, _ := matrix.Echelon(equations)
	sum := make(collection)
	for i, m := range l {
		if i == len(pivots) || pivots[i] != i {
			return nil, false
		}
		sum.add(reduced.A[i*len(columns)+len(l)], m[0], m[1], m[2])
	}
	return sum.terms(), true
}

// expansions returns the expansions of monomials.
func expansions(l [][3]int, prec int) []api.Series {
	e2 := powersOf(2, api.KindWeight/2, prec)
	e4 := powersOf(4, api.KindWeight/4, prec)
	e6 := powersOf(6, api.KindWeight/6, prec)
	var values []api.Series
	for _, m := range l {
		values = append(values, productOf(e2[m[0]], productOf(e4[m[1]], e6[m[2]])))
	}
	return values
}

// monomials returns the exponents of the monomials of weight k with at most an exponent of
// E2.
func monomials(k, depth int) [][3]int {
	var l [][3]int
	for a := 0; a <= depth; a++ {
		for b := 0; 2*a+4*b <= k; b++ {
			if rest := k - 2*a - 4*b; rest%6 == 0 {
				l = append(l, [3]int{a, b, rest / 6})
			}
		}
	}
	return l
}

// bracketSeries returns the bracket of order n of valid expansions.
func bracketSeries(a, b api.Weighted, n int) (api.Series, api.Errno) {
	whole, e := series.Mul(a.Series, b.Series)
	if e != api.OK {
		return api.Series{}, e
	}
	as, bs := []api.Series{a.Series}, []api.Series{b.Series}
	for i := range n {
		as = append(as, derived(as[i]))
		bs = append(bs, derived(bs[i]))
	}
	// The products of derivatives have at least the precision of that of a and b, because
	// their orders are not less.
	value := api.Series{From: end(whole)}
	for r := range n + 1 {
		part, _ := series.Scale(bracketFactor(a.Weight, b.Weight, n, r), productOf(as[r], bs[n-r]))
		value = sumOf(value, part)
	}
	return value, api.OK
}

// derived returns q da/dq of a valid series.
func derived(a api.Series) api.Series {
	b, _ := series.Theta(a)
	return b
}

// productOf returns the product of valid series whose orders are in range.
func productOf(a, b api.Series) api.Series {
	c, _ := series.Mul(a, b)
	return c
}

// sumOf returns the sum of valid series.
func sumOf(a, b api.Series) api.Series {
	c, _ := series.Add(a, b)
	return c
}

// eisensteinSeries returns the Eisenstein series of weight k with the constant term 1.
func eisensteinSeries(k, prec int) api.Series {
	a, _ := eisenstein.Normalized(k, prec)
	return a
}

// end returns the precision of a valid series.
func end(a api.Series) int {
	return a.From + len(a.Coef)
}
