package charpoly

import (
	"slices"

	"halfplane/api"
	"halfplane/bigint"
	"halfplane/matrix"
	"halfplane/qpoly"
	"halfplane/rational"
	"halfplane/residue"
)

// The characteristic polynomials of matrices with at most so many rows are found by the
// traces of powers, because computing modulo primes gains nothing for them.
const few = 8

// at returns f(a) for a normalized polynomial.
func at(f api.Poly, a api.Matrix) api.Matrix {
	m, _ := matrix.New(a.Rows, a.Rows)
	for _, c := range slices.Backward(f) {
		// The factor with the greater elements is the second one, as layer 9 prefers.
		m, _ = matrix.Mul(a, m)
		for i := range a.Rows {
			x := &m.A[i*a.Rows+i]
			*x = rational.Add(*x, c)
		}
	}
	return m
}

// charPoly returns the characteristic polynomial of a.
func charPoly(a api.Matrix) api.Poly {
	if a.Rows <= few {
		return charPolyByTraces(a)
	}
	rows, den := integral(a)
	f := charPolyByPrimes(rows)
	// The roots for the integral matrix are those of a times den.
	g := make(api.Poly, len(f))
	scale := bigint.Of(1)
	for i, c := range slices.Backward(f) {
		g[i], _ = rational.Make(c, scale)
		scale = bigint.Mul(scale, den)
	}
	return g
}

// charPolyByTraces returns the characteristic polynomial of a, whose power sums are the
// traces of the powers of a.
func charPolyByTraces(a api.Matrix) api.Poly {
	sums := make([]api.Rat, a.Rows)
	power := a
	for i := range sums {
		sums[i], _ = matrix.Trace(power)
		power, _ = matrix.Mul(a, power)
	}
	f, _ := qpoly.FromPowerSums(sums)
	return f
}

// integral returns the rows of the least positive multiple of a with integers, and the
// factor.
func integral(a api.Matrix) (rows [][]api.Int, den api.Int) {
	den = bigint.Of(1)
	for _, x := range a.A {
		d := rational.Normal(x).Den
		rest, _ := bigint.Exact(d, bigint.Gcd(den, d))
		den = bigint.Mul(den, rest)
	}
	rows = make([][]api.Int, a.Rows)
	for i := range rows {
		for _, x := range a.A[i*a.Cols : (i+1)*a.Cols] {
			n, _ := rational.Integer(rational.Mul(x, rational.Whole(den)))
			rows[i] = append(rows[i], n)
		}
	}
	return rows, den
}

// charPolyByPrimes returns the characteristic polynomial of the matrix with these rows.
func charPolyByPrimes(rows [][]api.Int) api.ZPoly {
	limit := bigint.Mul(bigint.Of(2), bound(rows))
	var primes residue.Primes
	residues := make([][]uint64, len(rows)+1)
	for q := residue.First(); bigint.Cmp(primes.Product(), limit) <= 0; q = q.Next() {
		primes.Add(q)
		for i, c := range q.CharPoly(q.Rows(rows)) {
			residues[i] = append(residues[i], c)
		}
	}
	f := make(api.ZPoly, len(residues))
	for i, l := range residues {
		f[i] = primes.Int(l)
	}
	return f
}

// bound returns a number that is greater than the coefficients of the characteristic
// polynomial. These are sums of minors, which are at most the products of the lengths of
// their rows (Hadamard); the product of all 1 + length is the sum of such products.
func bound(rows [][]api.Int) api.Int {
	product := bigint.Of(1)
	for _, row := range rows {
		var sum api.Int
		for _, x := range row {
			sum = bigint.Add(sum, bigint.Mul(x, x))
		}
		length, _, _ := bigint.Sqrt(sum)
		product = bigint.Mul(product, bigint.Add(length, bigint.Of(2)))
	}
	return product
}

// annihilator returns the monic polynomial f of least degree with v * f(a) = 0.
func annihilator(a api.Matrix, v []api.Rat) api.Poly {
	images := iterates(a, v)
	// If n of the images are independent, these are the first n of them, and the next
	// one is the first that is a combination of those before it.
	n, _ := matrix.Rank(images)
	basis := api.Matrix{Rows: n, Cols: a.Rows, A: images.A[:n*a.Rows]}
	next, _ := matrix.Row(images, n)
	c, _ := matrix.Solve(basis, next)
	f := make(api.Poly, n+1)
	for i, x := range c {
		f[i] = rational.Neg(x)
	}
	f[n] = rational.Of(1)
	return f
}

// iterates returns the matrix of the images of v under the powers of a, from v itself
// to that under the power whose exponent is the number of rows of a.
func iterates(a api.Matrix, v []api.Rat) api.Matrix {
	m := api.Matrix{Rows: a.Rows + 1, Cols: a.Rows}
	for range m.Rows {
		m.A = append(m.A, v...)
		v, _ = matrix.Apply(v, a)
	}
	return m
}

// minPoly returns the minimal polynomial of a: the least common multiple of the
// annihilators of the unit vectors.
func minPoly(a api.Matrix) api.Poly {
	f := api.Poly{rational.Of(1)}
	value, _ := matrix.Identity(a.Rows)
	for {
		v, ok := rowOtherThanZero(value)
		if !ok {
			return f
		}
		g := annihilator(a, v)
		f = qpoly.Mul(f, g)
		if qpoly.Degree(f) == a.Rows {
			return f
		}
		value, _ = matrix.Mul(value, at(g, a))
	}
}

// rowOtherThanZero returns the first row of m that is not 0, if there is one.
func rowOtherThanZero(m api.Matrix) ([]api.Rat, bool) {
	for i, x := range m.A {
		if rational.Sign(x) != 0 {
			row, _ := matrix.Row(m, i/m.Cols)
			return row, true
		}
	}
	return nil, false
}
