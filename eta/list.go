package eta

import (
	"slices"

	"halfplane/api"
	"halfplane/arith"
	"halfplane/bigint"
	"halfplane/matrix"
	"halfplane/rational"
)

// maxWeight is the greatest weight of lists.
const maxWeight = 12

// list returns the modular and holomorphic eta quotients. Their doubled orders are not
// negative and have the weighted sum weight psi/6, and determine the exponents.
func list(level, weight int) ([]api.Eta, api.Errno) {
	psi, _ := arith.Psi(level)
	if weight*psi%6 != 0 {
		return nil, api.OK
	}
	total := weight * psi / 6
	counts := cuspCounts(level)
	if vectors(counts, total) > api.MaxOrders {
		return nil, api.ErrLarge
	}
	solve := exponentsOf(level)
	var l []api.Eta
	visitVectors(counts, total, func(doubled []int) {
		e, ok := solve(doubled)
		if ok && isModular(e) {
			l = append(l, e)
		}
	})
	slices.SortFunc(l, func(a, b api.Eta) int { return slices.Compare(a.Exps, b.Exps) })
	return l, api.OK
}

// cuspCounts returns the numbers of cusps with the denominators c, for all divisors c.
func cuspCounts(level int) []int {
	var l []int
	for _, c := range divisors(level) {
		n, _ := arith.Phi(arith.Gcd(c, level/c))
		l = append(l, n)
	}
	return l
}

// vectors returns how many vectors of integers that are not negative have the given sum
// with these weights; or, if there are more than MaxOrders, a greater number than that.
func vectors(weights []int, total int) int {
	count := make([]int, total+1)
	count[0] = 1
	for _, w := range weights {
		for s := w; s <= total; s++ {
			count[s] = min(count[s]+count[s-w], api.MaxOrders+1)
		}
	}
	return count[total]
}

// visitVectors passes all these vectors to a function, which must not keep them.
func visitVectors(weights []int, total int, visit func(x []int)) {
	x := make([]int, len(weights))
	var from func(i, rest int)
	from = func(i, rest int) {
		last := len(x) - 1
		if i < last {
			for x[i] = 0; x[i]*weights[i] <= rest; x[i]++ {
				from(i+1, rest-x[i]*weights[i])
			}
			return
		}
		if rest%weights[last] == 0 {
			x[last] = rest / weights[last]
			visit(x)
		}
	}
	from(0, total)
}

// exponentsOf returns a function that returns the eta quotient with given doubled orders,
// and whether its exponents are integers within the limits.
func exponentsOf(level int) func(doubled []int) (api.Eta, bool) {
	rows, den := inverse(level)
	return func(doubled []int) (api.Eta, bool) {
		e := api.Eta{Level: level}
		for i := range rows {
			r := 0
			for j, n := range doubled {
				r += rows[i][j] * n
			}
			if r%den != 0 || !isExponent(r/den) {
				return api.Eta{}, false
			}
			e.Exps = append(e.Exps, r/den)
		}
		return e, true
	}
}

// inverse returns the matrix that maps columns of doubled orders to exponents, multiplied
// by a common denominator, and this.
func inverse(level int) ([][]int, int) {
	l := divisors(level)
	m, _ := matrix.New(len(l), len(l))
	for i, c := range l {
		for j, d := range l {
			num := 2 * contribution(level, c, d)
			den := 24 * arith.Gcd(c, level/c) * c
			m.A[i*len(l)+j], _ = rational.Make(bigint.Of(num), bigint.Of(den))
		}
	}
	m, _ = matrix.Inverse(m)
	den := 1
	for _, x := range m.A {
		d, _ := bigint.Small(x.Den)
		den = den / arith.Gcd(den, d) * d
	}
	rows := make([][]int, len(l))
	for k, x := range m.A {
		n, _ := rational.Integer(rational.Mul(x, rational.Of(den)))
		word, _ := bigint.Small(n)
		rows[k/len(l)] = append(rows[k/len(l)], word)
	}
	return rows, den
}
