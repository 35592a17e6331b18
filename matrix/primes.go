package matrix

import (
	"halfplane/api"
	"halfplane/bigint"
	"halfplane/rational"
	"halfplane/residue"
)

// search looks for the reduced row echelon form of a matrix by those modulo primes. It
// keeps the primes with the best pivots found: the pivots modulo a prime are never
// better than the true ones, which are those modulo all but finitely many primes.
type search struct {
	rows [][]api.Int
	n    int
	// The greatest sum of the absolute values of the elements of a row.
	norm   api.Int
	pivots []int
	free   []int
	primes residue.Primes
	// residues[k][j][i] is the element modulo prime k in row i and column free[j].
	residues [][][]uint32
	// The columns that are known, of those in free.
	columns [][]api.Rat
}

// echelonByPrimes returns the reduced row echelon form of the matrix with these rows of
// n elements, and the columns of its pivots.
func echelonByPrimes(rows [][]api.Int, n int) (reduced [][]api.Rat, pivots []int) {
	s := search{rows: rows, n: n, norm: normOf(rows)}
	attempt := 1
	for q := residue.First(); ; q = q.Next() {
		s.add(q)
		if len(s.residues) < attempt {
			continue
		}
		if s.findColumns() {
			return s.result(), s.pivots
		}
		attempt = len(s.residues) + len(s.residues)/4 + 1
	}
}

// normOf returns the greatest sum of the absolute values of the elements of a row.
func normOf(rows [][]api.Int) api.Int {
	var norm api.Int
	for _, l := range rows {
		var sum api.Int
		for _, x := range l {
			sum = bigint.Add(sum, bigint.Abs(x))
		}
		if bigint.Cmp(sum, norm) > 0 {
			norm = sum
		}
	}
	return norm
}

// add adds the residues modulo a prime if its pivots are not worse than those known; if
// they are better, what is known is useless.
func (s *search) add(q residue.Prime) {
	rows := q.Rows(s.rows)
	pivots := q.Echelon(rows)
	order := compare(pivots, s.pivots)
	if len(s.residues) > 0 && order > 0 {
		return
	}
	if len(s.residues) == 0 || order < 0 {
		*s = search{rows: s.rows, n: s.n, norm: s.norm, pivots: pivots, free: others(pivots, s.n)}
	}
	residues := make([][]uint32, len(s.free))
	for j, col := range s.free {
		residues[j] = make([]uint32, len(pivots))
		for i := range residues[j] {
			residues[j][i] = uint32(rows[i][col])
		}
	}
	s.residues = append(s.residues, residues)
	s.primes.Add(q)
}

// compare returns a negative number if the pivots p are better than q (the rank of some
// first columns is greater, and of no less columns smaller), and a positive one if q
// are better.
func compare(p, q []int) int {
	for i := range min(len(p), len(q)) {
		if p[i] != q[i] {
			return p[i] - q[i]
		}
	}
	return len(q) - len(p)
}

// others returns the numbers less than n that are not in the ascending list l.
func others(l []int, n int) []int {
	var free []int
	for i := range n {
		if len(l) > 0 && l[0] == i {
			l = l[1:]
		} else {
			free = append(free, i)
		}
	}
	return free
}

// findColumns finds columns of the echelon form, until there is one for which the
// primes are too few, and reports whether it has found all of them. Then the pivots are
// the true ones: all columns are combinations of those of the pivots, and these are
// independent, since they are modulo a prime.
func (s *search) findColumns() bool {
	product := s.primes.Product()
	half, _, _ := bigint.DivMod(product, bigint.Of(2))
	bound, _, _ := bigint.Sqrt(half)
	for j := len(s.columns); j < len(s.free); j++ {
		column, ok := s.findColumn(j, product, bound)
		if !ok {
			return false
		}
		s.columns = append(s.columns, column)
	}
	return true
}

// findColumn looks for fractions nums[i] / den with the residues of column j.
//
// If x is that column of the matrix itself, and m the matrix of the columns of the
// pivots, den * x - m * nums is divisible by the product of the primes. Its elements are
// at most norm times the greatest of the numbers. If that is less than the product, they
// are 0; so the column is proved to be right, wherever the fractions come from.
func (s *search) findColumn(j int, product, bound api.Int) ([]api.Rat, bool) {
	nums := make([]api.Int, len(s.pivots))
	den := bigint.Of(1)
	greatest := den
	for i := range nums {
		x, d, ok := fraction(bigint.Mul(den, s.element(i, j)), product, bound)
		if !ok {
			return nil, false
		}
		if !isOne(d) {
			den = bigint.Mul(den, d)
			if bigint.Cmp(den, bound) > 0 {
				return nil, false
			}
			for k := range i {
				nums[k] = bigint.Mul(nums[k], d)
			}
		}
		nums[i] = x
	}
	for _, x := range append(nums, den) {
		if x = bigint.Abs(x); bigint.Cmp(x, greatest) > 0 {
			greatest = x
		}
	}
	if bigint.Cmp(bigint.Mul(greatest, s.norm), product) >= 0 {
		return nil, false
	}
	column := make([]api.Rat, len(nums))
	for i, x := range nums {
		column[i], _ = rational.Make(x, den)
	}
	return column, true
}

// element returns the integer with the residues in row i of column j.
func (s *search) element(i, j int) api.Int {
	l := make([]uint64, len(s.residues))
	for k := range l {
		l[k] = uint64(s.residues[k][j][i])
	}
	return s.primes.Int(l)
}

// fraction returns integers n and d > 0 with n = a * d modulo the product of the primes,
// if there are some with absolute values of at most the bound.
func fraction(a, product, bound api.Int) (n, d api.Int, ok bool) {
	_, n, _ = bigint.DivMod(a, product)
	if bigint.Cmp(n, bound) <= 0 {
		return n, bigint.Of(1), true
	}
	if m := bigint.Sub(product, n); bigint.Cmp(m, bound) <= 0 {
		return bigint.Neg(m), bigint.Of(1), true
	}
	return residue.Fraction(n, product, bound)
}

// result returns the echelon form.
func (s *search) result() [][]api.Rat {
	reduced := make([][]api.Rat, len(s.pivots))
	for i, col := range s.pivots {
		reduced[i] = row(zeros(1, s.n), 0)
		reduced[i][col] = rational.Of(1)
		for j, free := range s.free {
			reduced[i][free] = s.columns[j][i]
		}
	}
	return reduced
}
