package heilbronn

import (
	"halfplane/api"
	"halfplane/arith"
	"halfplane/sl2"
)

// term is a cusp in the formal sum of a class, which is that of the matrix (a b; 0 n/a).
type term struct {
	a, b int
	cusp api.Cusp
}

// isBalanced reports whether the sums over the matrices of all classes, which have the
// determinant n, are those that Merel's condition requires.
func isBalanced(n int, l []api.Mat2) bool {
	// The multiplicities by which the sums differ from the required ones.
	sums := map[term]int{}
	divisors, _ := arith.Divisors(n)
	for _, a := range divisors {
		for b := range a {
			sums[term{a, b, api.Cusp{P: 1, Q: 0}}]--
			sums[term{a, b, api.Cusp{P: 0, Q: 1}}]++
		}
	}
	for _, m := range l {
		a, b := classOf(m)
		to, _ := sl2.Reduce(m.A, m.C)
		from, _ := sl2.Reduce(m.B, m.D)
		sums[term{a, b, to}]++
		sums[term{a, b, from}]--
	}
	for _, multiplicity := range sums {
		if multiplicity != 0 {
			return false
		}
	}
	return true
}

// classOf returns a and b of the matrix (a b; 0 d) in the class of m.
func classOf(m api.Mat2) (a, b int) {
	// With u C + v D = d, the columns of m times (D/d u; -C/d v) are (a, 0) and (b, d).
	d, u, v, _ := arith.Xgcd(m.C, m.D)
	a = (m.A*m.D - m.B*m.C) / d
	b = (u*m.A + v*m.B) % a
	if b < 0 {
		b += a
	}
	return a, b
}
