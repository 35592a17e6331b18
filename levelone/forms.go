package levelone

import (
	"halfplane/api"
	"halfplane/arith"
	"halfplane/bigint"
	"halfplane/eisenstein"
	"halfplane/rational"
	"halfplane/series"
)

// delta returns Delta.
func delta(prec int) api.Series {
	e6 := eisensteinSeries(6, prec)
	difference, _ := series.Sub(cube(eisensteinSeries(4, prec)), product(e6, e6))
	return scaled(quotient(1, 1728), difference)
}

// j returns the modular invariant with a precision that is not negative.
func j(prec int) api.Series {
	// Each factor needs as many coefficients, and Delta begins with q.
	count := prec + 1
	quo, _ := series.Quo(cube(eisensteinSeries(4, count)), delta(count+1))
	return quo
}

// tau returns tau(n), by the coefficients of 691 E12 - 691 E6^2 = 762048 Delta.
func tau(n int) api.Int {
	e6 := eisensteinSeries(6, n+1)
	var square api.Int
	for i := range n + 1 {
		square = bigint.Add(square, bigint.Mul(e6.Coef[i].Num, e6.Coef[n-i].Num))
	}
	sigma, _ := arith.Sigma(11, n)
	difference := bigint.Sub(bigint.Mul(bigint.Of(65520), sigma), bigint.Mul(bigint.Of(691), square))
	value, _ := bigint.Exact(difference, bigint.Of(762048))
	return value
}

// miller returns Miller's basis of an even weight k.
func miller(k, prec int) []api.Series {
	size := Dimension(k)
	// The basis is found by its first coefficients, whatever the precision.
	forms := triangular(k, size, max(prec, size))
	for i := range forms {
		for n := i + 1; n < size; n++ {
			c, _ := series.At(forms[i], n)
			forms[i] = sum(forms[i], scaled(rational.Neg(c), forms[n]))
		}
	}
	for i := range forms {
		forms[i], _ = series.Cut(forms[i], prec)
	}
	return forms
}

// triangular returns as many forms q^i + O(q^(i+1)) of weight k as the space has
// dimensions: the products of powers of Delta, E4^3, and a form that is 1 + O(q).
func triangular(k, size, prec int) []api.Series {
	if size == 0 {
		return nil
	}
	d, e := delta(prec), cube(eisensteinSeries(4, prec))
	forms := []api.Series{first(k-12*(size-1), prec)}
	power := forms[0]
	for range size - 1 {
		for i := range forms {
			forms[i] = product(forms[i], d)
		}
		power = product(power, e)
		forms = append([]api.Series{power}, forms...)
	}
	return forms
}

// first returns the form 1 + O(q) of a weight of which there is only one.
func first(k, prec int) api.Series {
	if k == 0 {
		one, _ := series.Monomial(rational.Of(1), 0, prec)
		return one
	}
	return eisensteinSeries(k, prec)
}

// eisensteinSeries returns the Eisenstein series of weight k with the constant term 1.
func eisensteinSeries(k, prec int) api.Series {
	a, _ := eisenstein.Normalized(k, prec)
	return a
}

// cube returns the third power of a holomorphic series.
func cube(a api.Series) api.Series {
	return product(a, product(a, a))
}

// product returns the product of series whose orders are in range.
func product(a, b api.Series) api.Series {
	c, _ := series.Mul(a, b)
	return c
}

// sum returns the sum of valid series.
func sum(a, b api.Series) api.Series {
	c, _ := series.Add(a, b)
	return c
}

// scaled returns c a for a valid series.
func scaled(c api.Rat, a api.Series) api.Series {
	b, _ := series.Scale(c, a)
	return b
}

// quotient returns n/d.
func quotient(n, d int) api.Rat {
	x, _ := rational.Make(bigint.Of(n), bigint.Of(d))
	return x
}
