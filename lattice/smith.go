package lattice

import (
	"halfplane/api"
	"halfplane/bigint"
)

// smith is a matrix d that is brought to its Smith normal form. The rows of u are
// treated as those of d, and those of v as its columns. If they are unit matrices at the
// beginning, d is then u times the first matrix times the transpose of v; if they have no
// columns, zero rows and columns of d disappear.
type smith struct {
	d    [][]api.Int
	cols int
	u, v [][]api.Int
}

// reduce brings d to its Smith normal form.
func (s *smith) reduce() {
	flipped := false
	for s.reduceRows(); !isDiagonal(s.d); s.reduceRows() {
		s.flip()
		flipped = !flipped
	}
	if flipped {
		s.flip()
	}
	for j := range s.rank() {
		for i := range j {
			s.divide(i, j)
		}
	}
}

// reduceRows brings d to Hermite normal form. By this, in turn for the rows and for the
// columns, d becomes diagonal: its first element becomes a proper divisor of what it was,
// as long as there are others in its row or column.
func (s *smith) reduceRows() {
	s.d, s.u = split(basisOf(glue(s.d, s.u)).rows(), s.cols)
}

// flip exchanges the rows and the columns.
func (s *smith) flip() {
	s.d, s.cols = transposed(s.d, s.cols), len(s.d)
	s.u, s.v = s.v, s.u
}

// isDiagonal reports whether all elements outside the diagonal are 0.
func isDiagonal(rows [][]api.Int) bool {
	for i, row := range rows {
		for j, x := range row {
			if i != j && bigint.Sign(x) != 0 {
				return false
			}
		}
	}
	return true
}

// rank returns the number of elements other than 0 of the diagonal, which are the first
// ones.
func (s *smith) rank() int {
	n := 0
	for n < len(s.d) && n < s.cols && bigint.Sign(s.d[n][n]) != 0 {
		n++
	}
	return n
}

// divide replaces the elements i and j of the diagonal by their greatest common divisor
// and their least common multiple.
func (s *smith) divide(i, j int) {
	a, b := s.d[i][i], s.d[j][j]
	g, x, y := bigint.Xgcd(a, b)
	if bigint.Cmp(g, a) == 0 {
		return
	}
	a, _ = bigint.Exact(a, g)
	b, _ = bigint.Exact(b, g)
	// With x * a + y * b = 1: (x y; -b a) * diag(a g, b g) * (1 -y b; 1 x a) is diagonal.
	s.u[i], s.u[j] = combination(x, s.u[i], y, s.u[j]), combination(bigint.Neg(b), s.u[i], a, s.u[j])
	one := bigint.Of(1)
	s.v[i], s.v[j] = combination(one, s.v[i], one, s.v[j]), combination(bigint.Neg(bigint.Mul(y, b)), s.v[i], bigint.Mul(x, a), s.v[j])
	s.d[i][i], s.d[j][j] = g, bigint.Mul(bigint.Mul(a, b), g)
}
