package theta_test

import (
	"math/big"
	"math/rand"
	"reflect"
	"slices"
	"testing"

	"halfplane/api"
	"halfplane/theta"
)

// toBig reads an integer as its digits denote it.
func toBig(a api.Int) *big.Int {
	z := new(big.Int)
	for _, d := range slices.Backward(a.Mag) {
		z.Lsh(z, 32).Or(z, big.NewInt(int64(d)))
	}
	if a.Neg {
		z.Neg(z)
	}
	return z
}

// fromBig returns an integer, normalized.
func fromBig(z *big.Int) api.Int {
	var mag []uint32
	rest := new(big.Int).Abs(z)
	for rest.Sign() != 0 {
		mag = append(mag, uint32(rest.Uint64()))
		rest.Rsh(rest, 32)
	}
	return api.Int{Neg: z.Sign() < 0, Mag: mag}
}

// toRat reads a fraction by its value.
func toRat(a api.Rat) *big.Rat {
	den := toBig(a.Den)
	if den.Sign() == 0 {
		return new(big.Rat)
	}
	return new(big.Rat).SetFrac(toBig(a.Num), den)
}

// fromRat returns a fraction, normalized.
func fromRat(x *big.Rat) api.Rat {
	return api.Rat{Num: fromBig(x.Num()), Den: fromBig(x.Denom())}
}

// whole returns an integer as a fraction.
func whole(n int64) api.Rat {
	return fromRat(big.NewRat(n, 1))
}

// written returns the normalized series with these coefficients from q^0 on.
func written(coef []*big.Rat) api.Series {
	var a api.Series
	for _, x := range coef {
		if x.Sign() == 0 && len(a.Coef) == 0 {
			a.From++
			continue
		}
		a.Coef = append(a.Coef, fromRat(x))
	}
	return a
}

// integers returns coefficients.
func integers(l ...int64) []*big.Rat {
	coef := make([]*big.Rat, len(l))
	for i, n := range l {
		coef[i] = big.NewRat(n, 1)
	}
	return coef
}

// alike reports whether two series are equal.
func alike(a, b api.Series) bool {
	return a.From == b.From && slices.EqualFunc(a.Coef, b.Coef, func(x, y api.Rat) bool {
		return sameInt(x.Num, y.Num) && sameInt(x.Den, y.Den)
	})
}

// sameInt reports whether two normalized integers are equal.
func sameInt(a, b api.Int) bool {
	return a.Neg == b.Neg && slices.Equal(a.Mag, b.Mag)
}

// expectError checks that a result is an error with a zero value beside it.
func expectError(t *testing.T, name string, got any, e, want api.Errno) {
	t.Helper()
	if e != want || !reflect.ValueOf(got).IsZero() {
		t.Errorf("%s: %v, %d; want error %d", name, got, e, want)
	}
}

// of returns the form with these elements.
func of(a ...int) api.Gram {
	rank := 0
	for rank*rank < len(a) {
		rank++
	}
	return api.Gram{Rank: rank, A: a}
}

// same reports whether two forms are equal.
func same(a, b api.Gram) bool {
	return a.Rank == b.Rank && slices.Equal(a.A, b.A)
}

// diagonal returns a diagonal form.
func diagonal(l ...int) api.Gram {
	g := api.Gram{Rank: len(l), A: make([]int, len(l)*len(l))}
	for i, x := range l {
		g.A[i*len(l)+i] = x
	}
	return g
}

// rootLattice returns the form A_n, with 2 in the diagonal and -1 beside it.
func rootLattice(n int) api.Gram {
	g := diagonal(slices.Repeat([]int{2}, n)...)
	for i := range n - 1 {
		g.A[i*n+i+1], g.A[(i+1)*n+i] = -1, -1
	}
	return g
}

// eight returns the form E8, whose determinant is 1.
func eight() api.Gram {
	g := rootLattice(8)
	g.A[6*8+7], g.A[7*8+6] = 0, 0
	g.A[4*8+7], g.A[7*8+4] = -1, -1
	return g
}

// random returns a form in which the diagonal prevails.
func random(r *rand.Rand, rank, limit int) api.Gram {
	g := api.Gram{Rank: rank, A: make([]int, rank*rank)}
	for i := range rank {
		for j := range i {
			x := r.Intn(2*limit+1) - limit
			g.A[i*rank+j], g.A[j*rank+i] = x, x
		}
	}
	for i := range rank {
		sum := 1 + r.Intn(limit+1)
		for j := range rank {
			sum += max(g.A[i*rank+j], -g.A[i*rank+j])
		}
		g.A[i*rank+i] = sum + sum%2
	}
	return g
}

// samples returns forms of all sorts.
func samples(r *rand.Rand) []api.Gram {
	l := []api.Gram{of(2), of(4), of(1000), diagonal(2, 2), of(2, 1, 1, 2), of(2, -1, -1, 12), of(4, 1, 1, 6), of(12, 5, 5, 10), eight(), diagonal(2, 1000)}
	for n := 1; n <= 8; n++ {
		l = append(l, rootLattice(n))
	}
	for range 40 {
		l = append(l, random(r, 1+r.Intn(4), 1+r.Intn(4)))
	}
	return l
}

// value returns the value of the form.
func value(g api.Gram, x []int) int {
	sum := 0
	for i := range x {
		for j := range x {
			sum += x[i] * g.A[i*g.Rank+j] * x[j]
		}
	}
	return sum / 2
}

// invert returns the inverse and the determinant, by Gauss and Jordan.
func invert(rank int, l []int) (rows [][]*big.Rat, det *big.Rat) {
	for i := range rank {
		var row []*big.Rat
		for _, x := range l[i*rank : (i+1)*rank] {
			row = append(row, big.NewRat(int64(x), 1))
		}
		for j := range rank {
			row = append(row, big.NewRat(int64(max(0, 1-max(i-j, j-i))), 1))
		}
		rows = append(rows, row)
	}
	det = big.NewRat(1, 1)
	for c := range rank {
		p := c
		for p < rank && rows[p][c].Sign() == 0 {
			p++
		}
		if p == rank {
			return nil, new(big.Rat)
		}
		if p != c {
			rows[p], rows[c] = rows[c], rows[p]
			det.Neg(det)
		}
		det.Mul(det, rows[c][c])
		factor := new(big.Rat).Inv(rows[c][c])
		for k := range rows[c] {
			rows[c][k].Mul(rows[c][k], factor)
		}
		for i := range rank {
			factor := new(big.Rat).Set(rows[i][c])
			for k := range rows[i] {
				if i != c {
					rows[i][k].Sub(rows[i][k], new(big.Rat).Mul(factor, rows[c][k]))
				}
			}
		}
	}
	for i := range rows {
		rows[i] = rows[i][rank:]
	}
	return rows, det
}

// boxOf returns the bounds of the box of m and the number of its elements.
func boxOf(g api.Gram, m int) ([]int, *big.Int) {
	inverse, _ := invert(g.Rank, g.A)
	b, size := make([]int, g.Rank), big.NewInt(1)
	for i := range b {
		limit := new(big.Rat).Mul(inverse[i][i], big.NewRat(int64(2*m), 1))
		floor := new(big.Int).Div(limit.Num(), limit.Denom())
		b[i] = int(new(big.Int).Sqrt(floor).Int64())
		size.Mul(size, big.NewInt(int64(2*b[i]+1)))
	}
	return b, size
}

// tooLarge reports whether the box of m has too many elements.
func tooLarge(g api.Gram, m int) bool {
	_, size := boxOf(g, m)
	return size.Cmp(big.NewInt(1<<20)) > 0
}

// vectorsUpTo returns the vectors of the box of m by their values, each list in
// lexicographic order.
func vectorsUpTo(g api.Gram, m int) map[int][][]int {
	b, _ := boxOf(g, m)
	l := map[int][][]int{}
	x := make([]int, g.Rank)
	for i := range x {
		x[i] = -b[i]
	}
	for {
		v := value(g, x)
		l[v] = append(l[v], slices.Clone(x))
		i := g.Rank - 1
		for i >= 0 && x[i] == b[i] {
			x[i] = -b[i]
			i--
		}
		if i < 0 {
			return l
		}
		x[i]++
	}
}

// invalid returns forms with their errors.
func invalid() map[api.Errno][]api.Gram {
	return map[api.Errno][]api.Gram{
		api.ErrRange:    {{}, {Rank: 9}, {Rank: -1, A: []int{2}}, {Rank: 1 << 62}, of(1001), of(3, 1, 2, -1001), of(1, 1<<62, 3, -1<<63)},
		api.ErrShape:    {{Rank: 1}, {Rank: 1, A: []int{2, 2}}, {Rank: 3, A: []int{2, 1, 1, 2}}, {Rank: 2, A: []int{5000}}},
		api.ErrForm:     {of(1), of(3), of(2, 1, 0, 2), of(2, 0, 0, 3), of(-2, 1, 1, 1), of(2, 0, 1, 0, 2, 0, 0, 0, 2)},
		api.ErrDefinite: {of(0), of(-2), of(2, 2, 2, 2), of(2, 3, 3, 2), diagonal(2, -2), diagonal(2, 0, 2), of(0, 1, 1, 0), of(2, 0, 0, 0, 2, 2, 0, 2, 2)},
	}
}

// must returns a result that has no error.
func must(t *testing.T) func(g api.Gram, e api.Errno) api.Gram {
	return func(g api.Gram, e api.Errno) api.Gram {
		t.Helper()
		if e != api.OK || theta.Check(g) != api.OK {
			t.Fatalf("%v, error %d", g, e)
		}
		return g
	}
}
