package symbols_test

import (
	"math/big"
	"math/rand"
	"reflect"
	"slices"
	"testing"

	"halfplane/api"
	"halfplane/manin"
	"halfplane/symbols"
)

// spec names a space.
func spec(level, weight, disc int) api.Spec {
	return api.Spec{Level: level, Weight: weight, Disc: disc}
}

// spaces returns valid spaces of all kinds.
func spaces() []api.Spec {
	return []api.Spec{
		spec(1, 2, 1), spec(1, 4, 1), spec(1, 12, 1), spec(1, 24, 1), spec(2, 2, 1), spec(2, 16, 1), spec(3, 3, -3), spec(4, 5, -4), spec(4, 3, -4),
		spec(5, 6, 5), spec(6, 4, 1), spec(7, 3, -7), spec(8, 4, 8), spec(8, 3, -8), spec(9, 4, 1), spec(11, 2, 1), spec(12, 3, -3), spec(12, 2, 12),
		spec(12, 5, -4), spec(13, 2, 13), spec(13, 6, 1), spec(16, 2, 8), spec(20, 3, -20), spec(25, 2, 5), spec(30, 2, 1), spec(37, 2, 1),
	}
}

// great returns valid spaces with many symbols.
func great() []api.Spec {
	return []api.Spec{spec(1, 22, 1), spec(3, 23, -3), spec(12, 10, 12), spec(23, 5, -23), spec(36, 4, 1), spec(120, 2, 1), spec(120, 2, 60), spec(113, 2, 113)}
}

// wrong returns a space for each error of dimension.Check.
func wrong() []api.Spec {
	return []api.Spec{
		{}, spec(0, 2, 1), spec(121, 2, 1), spec(1, 1, 1), spec(1, 26, 1), spec(11, 2, 121), spec(5, 2, 2), spec(5, 2, 0), spec(5, 3, -3),
		spec(5, 3, 5), spec(3, 2, -3), spec(119, 24, 1), spec(1, 3, 1),
	}
}

// module returns the module of a valid space.
func module(t *testing.T, s api.Spec) *symbols.Module {
	t.Helper()
	m, e := symbols.New(s)
	if e != api.OK || m == nil {
		t.Fatalf("New(%v): %d", s, e)
	}
	return m
}

// relations returns the rows of the relations.
func relations(t *testing.T, s api.Spec) [][]*big.Rat {
	t.Helper()
	z, e := manin.Relations(s)
	if e != api.OK {
		t.Fatalf("Relations(%v): %d", s, e)
	}
	var rows [][]*big.Rat
	for i := range z.Rows {
		var row []*big.Rat
		for _, x := range z.A[i*z.Cols : (i+1)*z.Cols] {
			row = append(row, new(big.Rat).SetInt(toInt(x)))
		}
		rows = append(rows, row)
	}
	return rows
}

// reduce brings rows to reduced row echelon form, by the steps of the textbook, and
// returns the columns of the pivots.
func reduce(rows [][]*big.Rat) (pivots []int) {
	for col := range rows[0] {
		r := len(pivots)
		i := r
		for i < len(rows) && rows[i][col].Sign() == 0 {
			i++
		}
		if i == len(rows) {
			continue
		}
		rows[r], rows[i] = rows[i], rows[r]
		inverse := new(big.Rat).Inv(rows[r][col])
		for _, x := range rows[r] {
			x.Mul(x, inverse)
		}
		for k, row := range rows {
			c := new(big.Rat).Set(row[col])
			if k == r || c.Sign() == 0 {
				continue
			}
			for j, x := range row {
				x.Sub(x, new(big.Rat).Mul(c, rows[r][j]))
			}
		}
		pivots = append(pivots, col)
	}
	return pivots
}

// rankModulo returns the rank of integral rows modulo a prime, which is at most their rank.
func rankModulo(rows [][]*big.Rat, p int64) int {
	var l [][]int64
	for _, row := range rows {
		var r []int64
		for _, x := range row {
			r = append(r, new(big.Int).Mod(x.Num(), big.NewInt(p)).Int64())
		}
		l = append(l, r)
	}
	rank := 0
	for col := range rows[0] {
		i := slices.IndexFunc(l[rank:], func(r []int64) bool { return r[col] != 0 })
		if i < 0 {
			continue
		}
		l[rank], l[rank+i] = l[rank+i], l[rank]
		inverse := new(big.Int).ModInverse(big.NewInt(l[rank][col]), big.NewInt(p)).Int64()
		for _, r := range l[rank+1:] {
			if c := r[col] * inverse % p; c != 0 {
				for j, x := range l[rank] {
					r[j] = (r[j] + (p-c)*x) % p
				}
			}
		}
		if rank++; rank == len(l) {
			break
		}
	}
	return rank
}

// toInt reads an integer as its digits denote it.
func toInt(a api.Int) *big.Int {
	z := new(big.Int)
	for _, d := range slices.Backward(a.Mag) {
		z.Lsh(z, 32).Or(z, big.NewInt(int64(d)))
	}
	if a.Neg {
		z.Neg(z)
	}
	return z
}

// toRat reads a fraction as it is to be read, with 0 as a denominator.
func toRat(a api.Rat) *big.Rat {
	d := toInt(a.Den)
	if d.Sign() == 0 {
		return new(big.Rat)
	}
	return new(big.Rat).SetFrac(toInt(a.Num), d)
}

// fromInt returns an integer with some leading zeros.
func fromInt(z *big.Int, zeros int) api.Int {
	a := api.Int{Neg: z.Sign() < 0}
	for z = new(big.Int).Abs(z); z.Sign() != 0; z.Rsh(z, 32) {
		a.Mag = append(a.Mag, uint32(z.Uint64()))
	}
	a.Mag = append(a.Mag, make([]uint32, zeros)...)
	return a
}

// disguise returns a fraction in one of its representations.
func disguise(r *rand.Rand, x *big.Rat) api.Rat {
	factor := big.NewInt(int64(1 + r.Intn(6)))
	if r.Intn(2) == 0 {
		factor.Neg(factor)
	}
	a := api.Rat{Num: fromInt(new(big.Int).Mul(x.Num(), factor), r.Intn(3)), Den: fromInt(new(big.Int).Mul(x.Denom(), factor), r.Intn(3))}
	switch {
	case x.Sign() == 0 && r.Intn(2) == 0:
		return api.Rat{Num: fromInt(factor, 1), Den: api.Int{Neg: true, Mag: make([]uint32, r.Intn(2))}}
	case x.Sign() == 0:
		a.Num.Neg = r.Intn(2) == 0
	}
	return a
}

// randomRat returns a fraction, which is 0 sometimes.
func randomRat(r *rand.Rand) *big.Rat {
	if r.Intn(4) == 0 {
		return new(big.Rat)
	}
	x := big.NewRat(int64(r.Intn(201)-100), int64(1+r.Intn(30)))
	if r.Intn(5) == 0 {
		x.Mul(x, new(big.Rat).SetInt(new(big.Int).Lsh(big.NewInt(77), 100)))
	}
	return x
}

// isNormal reports whether a fraction is normalized.
func isNormal(a api.Rat) bool {
	for _, x := range []api.Int{a.Num, a.Den} {
		last := len(x.Mag) - 1
		if last < 0 && x.Neg || last >= 0 && x.Mag[last] == 0 {
			return false
		}
	}
	n, d := toInt(a.Num), toInt(a.Den)
	return d.Sign() > 0 && new(big.Int).GCD(nil, nil, n.Abs(n), d).Cmp(big.NewInt(1)) == 0
}

// sameRats reports whether fractions of a result are normalized and have these values.
func sameRats(got []api.Rat, want []*big.Rat) bool {
	return slices.EqualFunc(got, want, func(a api.Rat, x *big.Rat) bool { return isNormal(a) && toRat(a).Cmp(x) == 0 })
}

// zeros returns n zeros.
func zeros(n int) []*big.Rat {
	l := make([]*big.Rat, n)
	for i := range l {
		l[i] = new(big.Rat)
	}
	return l
}

// toRats reads fractions.
func toRats(l []api.Rat) []*big.Rat {
	values := make([]*big.Rat, len(l))
	for i, x := range l {
		values[i] = toRat(x)
	}
	return values
}

// rats returns fractions with integer values.
func rats(l ...int64) []*big.Rat {
	var values []*big.Rat
	for _, n := range l {
		values = append(values, big.NewRat(n, 1))
	}
	return values
}

// expectError checks that a result is an error with a zero value beside it.
func expectError(t *testing.T, name string, got any, e, want api.Errno) {
	t.Helper()
	if e != want || !reflect.ValueOf(got).IsZero() {
		t.Errorf("%s: %v, %d; want error %d", name, got, e, want)
	}
}
