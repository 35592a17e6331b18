package matrix_test

import (
	"math/big"
	"math/rand"
	"slices"
	"testing"

	"halfplane/api"
	"halfplane/bigint"
	"halfplane/matrix"
	"halfplane/rational"
)

// malformed are matrices that are not valid.
func malformed() []api.Matrix {
	x := rational.Of(1)
	return []api.Matrix{
		{Rows: -1, Cols: -1, A: []api.Rat{x}}, {Rows: -1}, {Cols: -1}, {A: []api.Rat{x}}, {Rows: 1, Cols: 1},
		{Rows: 1, Cols: 1, A: []api.Rat{x, x}}, {Rows: 2, Cols: 2, A: []api.Rat{x, x, x}}, {Rows: 1025}, {Cols: 1025}, {Rows: 1 << 62, Cols: 4},
		{Rows: -2, Cols: -2, A: []api.Rat{x, x, x, x}}, {Rows: 1, Cols: 1025, A: make([]api.Rat, 1025)},
	}
}

func TestConstruction(t *testing.T) { // P9.1
	for _, m := range []api.Matrix{{}, {Rows: 3}, {Cols: 1024}, {Rows: 2, Cols: 3, A: make([]api.Rat, 6)}, {Rows: 1, Cols: 1, A: []api.Rat{{Num: minusZero}}}, {Rows: 1024, Cols: 1, A: make([]api.Rat, 1024)}} {
		if !matrix.Valid(m) {
			t.Error(m)
		}
	}
	for _, m := range malformed() {
		if matrix.Valid(m) {
			t.Error(m)
		}
	}
	for _, c := range [][2]int{{0, 0}, {0, 5}, {5, 0}, {2, 3}, {1024, 1}, {1, 1024}} {
		m, e := matrix.New(c[0], c[1])
		check(t, "New", m, e, blank(c[0], c[1]))
		checkMemory(t, "New", m.A)
	}
	for _, c := range [][2]int{{-1, 0}, {0, -1}, {1025, 1}, {1, 1025}, {-1, -1}, {1 << 62, 4}} {
		if m, e := matrix.New(c[0], c[1]); e != api.ErrShape || !isZero(m) {
			t.Error(c, m, e)
		}
	}
	for _, n := range []int{0, 1, 2, 7} {
		m, e := matrix.Identity(n)
		check(t, "Identity", m, e, unit(n))
		checkMemory(t, "Identity", m.A)
	}
	if m, e := matrix.Identity(1024); e != api.OK || len(m.A) != 1<<20 {
		t.Error(e)
	}
	for _, n := range []int{-1, 1025, -1 << 63, 1<<63 - 1} {
		if m, e := matrix.Identity(n); e != api.ErrShape || !isZero(m) {
			t.Error(n, m, e)
		}
	}
}

func TestRows(t *testing.T) { // P9.1
	r := rand.New(rand.NewSource(1))
	for range 200 {
		a := random(r, r.Intn(5), r.Intn(5))
		want := toTable(a)
		var rows [][]api.Rat
		for i := range a.Rows {
			rows = append(rows, a.A[i*a.Cols:(i+1)*a.Cols])
		}
		m, e := matrix.FromRows(a.Cols, rows)
		check(t, "FromRows", m, e, want)
		for i := range a.Rows {
			row, e := matrix.Row(a, i)
			checkRow(t, "Row", row, e, want.rows[i])
			checkMemory(t, "Row", row)
		}
		checkMemory(t, "FromRows", m.A)
		for _, i := range []int{-1, a.Rows, a.Rows + 7, 1 << 62, -1 << 63} {
			if row, e := matrix.Row(a, i); e != api.ErrRange || len(row) != 0 {
				t.Error(a, i, e)
			}
		}
	}
	one := []api.Rat{rational.Of(1)}
	for _, c := range []struct {
		cols int
		rows [][]api.Rat
	}{{-1, nil}, {1025, nil}, {1, [][]api.Rat{one, nil}}, {0, [][]api.Rat{one}}, {2, [][]api.Rat{one}}, {0, make([][]api.Rat, 1025)}, {1025, [][]api.Rat{make([]api.Rat, 1025)}}} {
		if m, e := matrix.FromRows(c.cols, c.rows); e != api.ErrShape || !isZero(m) {
			t.Error(c, m, e)
		}
	}
	m, e := matrix.FromRows(0, make([][]api.Rat, 1024))
	check(t, "FromRows", m, e, blank(1024, 0))
	m, e = matrix.FromRows(1024, nil)
	check(t, "FromRows", m, e, blank(0, 1024))
	for _, m := range malformed() {
		if row, e := matrix.Row(m, -1); e != api.ErrShape || len(row) != 0 {
			t.Error(m, e)
		}
	}
}

func TestOperations(t *testing.T) { // P9.2
	r := rand.New(rand.NewSource(2))
	for range 400 {
		a := random(r, r.Intn(6), r.Intn(6))
		b, c := random(r, a.Rows, a.Cols), random(r, a.Cols, r.Intn(6))
		x := randomRat(r, 2)
		s, u := toTable(a), toTable(b)
		m, e := matrix.Add(a, b)
		check(t, "Add", m, e, add(s, u, 1))
		m, e = matrix.Sub(a, b)
		check(t, "Sub", m, e, add(s, u, -1))
		m, e = matrix.Mul(a, c)
		check(t, "Mul", m, e, mul(s, toTable(c)))
		m, e = matrix.Transpose(a)
		check(t, "Transpose", m, e, transpose(s))
		scaled := copyOf(s)
		for _, row := range scaled.rows {
			for _, y := range row {
				y.Mul(y, toRat(x))
			}
		}
		m, e = matrix.Scale(a, x)
		check(t, "Scale", m, e, scaled)
		v := random(r, 1, a.Rows)
		y, e := matrix.Apply(v.A, a)
		checkRow(t, "Apply", y, e, mul(toTable(v), s).rows[0])
	}
}

func TestProducts(t *testing.T) { // P9.2
	r := rand.New(rand.NewSource(3))
	greatest := func(n int) api.Int { // 2^(32 n) - 1
		mag := make([]uint32, n)
		for i := range mag {
			mag[i] = 1<<32 - 1
		}
		return api.Int{Mag: mag}
	}
	for i := range 150 {
		// Elements of the greatest absolute value for their digits, of all signs.
		a, b := api.Matrix{Rows: 1 + r.Intn(9), Cols: 1 + r.Intn(9)}, api.Matrix{Cols: 1 + r.Intn(9)}
		b.Rows = a.Cols
		sign := r.Intn(3)
		fill := func(m *api.Matrix, digits int) {
			for range m.Rows * m.Cols {
				x := greatest(digits)
				x.Neg = sign == 1 || sign == 2 && r.Intn(2) == 0
				if i%3 == 0 && r.Intn(2) == 0 {
					x = api.Int{}
				}
				m.A = append(m.A, api.Rat{Num: x, Den: bigint.Of(1 + i%2*r.Intn(5))})
			}
		}
		fill(&a, 1+r.Intn(4))
		fill(&b, 1+r.Intn(40))
		m, e := matrix.Mul(a, b)
		check(t, "Mul", m, e, mul(toTable(a), toTable(b)))
		bt, _ := matrix.Transpose(b)
		at, _ := matrix.Transpose(a)
		m, e = matrix.Mul(bt, at)
		check(t, "Mul", m, e, transpose(mul(toTable(a), toTable(b))))
		checkMemory(t, "Mul", m.A)
	}
	one, _ := matrix.Identity(1024)
	m, e := matrix.Mul(one, one)
	if e != api.OK || text(m.A) != text(one.A) {
		t.Error("the square of the greatest identity matrix", e)
	}
}

func TestPower(t *testing.T) { // P9.2
	r := rand.New(rand.NewSource(4))
	for i := range 60 {
		a := random(r, i%5, i%5)
		want := unit(a.Rows)
		for n := range 10 {
			m, e := matrix.Power(a, n)
			check(t, "Power", m, e, want)
			want = mul(want, toTable(a))
		}
		for _, n := range []int{-1, 1001, 1 << 62, -1 << 63} {
			if m, e := matrix.Power(a, n); e != api.ErrRange || !isZero(m) {
				t.Error(n, e)
			}
		}
	}
	m, e := matrix.Power(of(2, []int{1, 1}, []int{0, 1}), 1000)
	check(t, "Power", m, e, toTable(of(2, []int{1, 1000}, []int{0, 1})))
	m, e = matrix.Power(of(2, []int{1, 1}, []int{1, 0}), 999)
	f, g := big.NewInt(0), big.NewInt(1)
	for range 999 {
		f, g = g, new(big.Int).Add(f, g)
	}
	if e != api.OK || toRat(m.A[1]).Num().Cmp(f) != 0 {
		t.Error("Fibonacci", e)
	}
}

func TestTrace(t *testing.T) { // P9.2
	r := rand.New(rand.NewSource(5))
	for i := range 100 {
		a := random(r, i%6, i%6)
		want := new(big.Rat)
		for j, row := range toTable(a).rows {
			want.Add(want, row[j])
		}
		x, e := matrix.Trace(a)
		if e != api.OK {
			t.Fatal(e)
		}
		checkRat(t, "Trace", x, want)
	}
}

// sizes calls do with matrices of many sizes and ranks.
func sizes(seed int64, count int, do func(r *rand.Rand, a api.Matrix)) {
	r := rand.New(rand.NewSource(seed))
	for i := range count {
		rows, cols := r.Intn(7), r.Intn(7)
		if i%4 == 0 {
			rows, cols = 8+r.Intn(6), 8+r.Intn(6)
		}
		a := random(r, rows, cols)
		if i%3 == 0 {
			a = randomOfRank(r, rows, cols, r.Intn(min(rows, cols)+1))
		}
		if i%5 == 0 && rows > 1 {
			copy(a.A[:cols], a.A[cols:2*cols])
		}
		do(r, a)
	}
}

func TestEchelon(t *testing.T) { // P9.3
	sizes(6, 400, func(r *rand.Rand, a api.Matrix) {
		want, places := reduce(toTable(a))
		m, pivots, e := matrix.Echelon(a)
		check(t, "Echelon", m, e, want)
		if !slices.Equal(pivots, places) {
			t.Fatal(a, pivots, places)
		}
		if n, e := matrix.Rank(a); n != len(places) || e != api.OK {
			t.Fatal(a, n, e)
		}
		checkMemory(t, "Echelon", m.A)
	})
	m, pivots, e := matrix.Echelon(of(3, []int{2, 4, 6}, []int{1, 2, 4}))
	check(t, "Echelon", m, e, toTable(of(3, []int{1, 2, 0}, []int{0, 0, 1})))
	if !slices.Equal(pivots, []int{0, 2}) {
		t.Error(pivots)
	}
	for _, a := range []api.Matrix{{}, {Rows: 5}, {Cols: 5}, of(3, []int{0, 0, 0}, []int{0, 0, 0}), {Rows: 20, Cols: 30, A: make([]api.Rat, 600)}} {
		m, pivots, e := matrix.Echelon(a)
		check(t, "Echelon", m, e, blank(0, a.Cols))
		if n, f := matrix.Rank(a); n != 0 || f != api.OK || len(pivots) != 0 {
			t.Error(a, n, f, pivots)
		}
	}
}

// Matrices whose ranks and pivots are others modulo the primes that are used.
func TestEchelonModuloPrimes(t *testing.T) { // P9.3
	p := 1<<31 - 1
	for _, c := range []struct {
		i, j, x int
	}{{0, 0, p}, {0, 0, -p}, {3, 3, p}, {9, 9, p}, {4, 4, p * 2147483629}, {4, 5, p}, {9, 8, p}, {0, 0, 2147483629}, {3, 3, 2147483629}, {9, 9, 2147483629}} {
		for cols := 9; cols < 14; cols++ {
			a, _ := matrix.New(10, cols)
			for i := range 10 {
				for j := range cols {
					switch {
					case i == c.i && j == c.j || j == cols-1 && i == 2:
						a.A[i*cols+j] = rational.Of(c.x)
					case i == j || j == i+2 || j == cols-1:
						a.A[i*cols+j] = rational.Of(1 + i)
					}
				}
			}
			want, places := reduce(toTable(a))
			m, pivots, e := matrix.Echelon(a)
			check(t, "Echelon", m, e, want)
			if !slices.Equal(pivots, places) {
				t.Fatal(c, pivots, places)
			}
			k, e := matrix.Kernel(a)
			check(t, "Kernel", k, e, kernelOf(toTable(a)))
			if cols == 10 {
				det, e := matrix.Det(a)
				checkRat(t, "Det", det, detOf(toTable(a)))
				if e != api.OK {
					t.Error(e)
				}
			}
		}
	}
}

// Results with great numbers, which take many primes, and elements of very different sizes.
func TestEchelonWithGreatNumbers(t *testing.T) { // P9.3, P9.5
	r := rand.New(rand.NewSource(7))
	for _, n := range []int{3, 9, 11} {
		for _, digits := range []int{1, 6} {
			a := api.Matrix{Rows: n, Cols: n + 3}
			for range a.Rows * a.Cols {
				a.A = append(a.A, api.Rat{Num: randomInt(r, digits), Den: bigint.Add(bigint.Abs(randomInt(r, 1)), bigint.Of(1))})
			}
			want, _ := reduce(toTable(a))
			m, _, e := matrix.Echelon(a)
			check(t, "Echelon", m, e, want)
			tr, _ := matrix.Transpose(a)
			k, e := matrix.Kernel(tr)
			check(t, "Kernel", k, e, kernelOf(toTable(tr)))
			square, _ := matrix.Mul(a, tr)
			det, e := matrix.Det(square)
			if e != api.OK {
				t.Error(e)
			}
			checkRat(t, "Det", det, detOf(toTable(square)))
		}
	}
}

func TestKernelAndSolve(t *testing.T) { // P9.4, P9.7
	sizes(8, 400, func(r *rand.Rand, a api.Matrix) {
		k, e := matrix.Kernel(a)
		want := kernelOf(toTable(a))
		check(t, "Kernel", k, e, want)
		n, _ := matrix.Rank(a)
		if n+k.Rows != a.Rows {
			t.Fatal("the ranks do not add up", a)
		}
		x := random(r, 1, a.Rows)
		b, _ := matrix.Apply(x.A, a)
		checkSolution(t, a, b)
		checkSolution(t, a, random(r, 1, a.Cols).A)
		checkMemory(t, "Kernel", k.A)
	})
	k, e := matrix.Kernel(of(1, []int{1}, []int{2}, []int{3}))
	check(t, "Kernel", k, e, toTable(api.Matrix{Rows: 2, Cols: 3, A: parse("1 0 -1/3 0 1 -2/3")}))
	x, e := matrix.Solve(of(2, []int{1, 0}, []int{1, 0}), parse("5 0"))
	checkRow(t, "Solve", x, e, toTable(of(2, []int{0, 5})).rows[0])
	// Without equations all vectors are solutions, without unknowns only the empty one.
	k, e = matrix.Kernel(api.Matrix{Rows: 12})
	check(t, "Kernel", k, e, unit(12))
	x, e = matrix.Solve(api.Matrix{Rows: 2}, nil)
	checkRow(t, "Solve", x, e, blank(1, 2).rows[0])
	k, e = matrix.Kernel(api.Matrix{Cols: 4})
	check(t, "Kernel", k, e, blank(0, 0))
	x, e = matrix.Solve(api.Matrix{Cols: 2}, make([]api.Rat, 2))
	checkRow(t, "Solve", x, e, nil)
	if x, e := matrix.Solve(api.Matrix{Cols: 2}, parse("0 1")); e != api.ErrSingular || len(x) != 0 {
		t.Error(x, e)
	}
	if x, e := matrix.Solve(of(2, []int{1, 2}), parse("1 3")); e != api.ErrSingular || len(x) != 0 {
		t.Error(x, e)
	}
}

// checkSolution checks Solve, which has a solution if b is in the row space of a.
func checkSolution(t *testing.T, a api.Matrix, b []api.Rat) {
	t.Helper()
	m := toTable(a)
	vector := toTable(api.Matrix{Rows: 1, Cols: a.Cols, A: b}).rows[0]
	_, before := reduce(m)
	_, after := reduce(table{cols: a.Cols, rows: append(slices.Clone(m.rows), vector)})
	x, e := matrix.Solve(a, b)
	if len(after) > len(before) {
		if e != api.ErrSingular || len(x) != 0 {
			t.Fatal("Solve", a, b, x, e)
		}
		return
	}
	if e != api.OK || len(x) != a.Rows {
		t.Fatal("Solve", a, b, x, e)
	}
	y, e := matrix.Apply(x, a)
	checkRow(t, "x * t", y, e, vector)
	_, pivots := reduce(kernelOf(m))
	for _, col := range pivots {
		checkRat(t, "at a pivot of the kernel", x[col], new(big.Rat))
	}
	checkMemory(t, "Solve", x)
}

func TestInverseAndDet(t *testing.T) { // P9.5, P9.7
	r := rand.New(rand.NewSource(9))
	for i := range 300 {
		n := r.Intn(7)
		if i%5 == 0 {
			n = 8 + r.Intn(5)
		}
		a := random(r, n, n)
		if i%4 == 0 && n > 0 {
			a = randomOfRank(r, n, n, r.Intn(n))
		}
		want := detOf(toTable(a))
		det, e := matrix.Det(a)
		if e != api.OK {
			t.Fatal(e)
		}
		checkRat(t, "Det", det, want)
		m, e := matrix.Inverse(a)
		if want.Sign() == 0 {
			if e != api.ErrSingular || !isZero(m) {
				t.Fatal("Inverse", a, m, e)
			}
			continue
		}
		if !matrix.Valid(m) || e != api.OK {
			t.Fatal("Inverse", a, m, e)
		}
		product, e := matrix.Mul(a, m)
		check(t, "a * Inverse(a)", product, e, unit(n))
		check(t, "Inverse", m, e, toTable(m))
		b := random(r, n, n)
		c, _ := matrix.Mul(a, b)
		det, _ = matrix.Det(c)
		checkRat(t, "Det of a product", det, new(big.Rat).Mul(want, detOf(toTable(b))))
		checkMemory(t, "Inverse", m.A)
	}
	m, e := matrix.Inverse(of(2, []int{1, 2}, []int{3, 4}))
	check(t, "Inverse", m, e, toTable(api.Matrix{Rows: 2, Cols: 2, A: parse("-2 1 3/2 -1/2")}))
	m, e = matrix.Inverse(api.Matrix{})
	check(t, "Inverse", m, e, blank(0, 0))
	det, e := matrix.Det(api.Matrix{})
	checkRat(t, "Det", det, big.NewRat(1, 1))
	if e != api.OK {
		t.Error(e)
	}
	det, _ = matrix.Det(of(2, []int{0, 1}, []int{1, 0}))
	checkRat(t, "Det", det, big.NewRat(-1, 1))
	det, e = matrix.Det(api.Matrix{Rows: 15, Cols: 15, A: make([]api.Rat, 225)})
	checkRat(t, "Det", det, new(big.Rat))
	if _, f := matrix.Inverse(api.Matrix{Rows: 15, Cols: 15, A: make([]api.Rat, 225)}); e != api.OK || f != api.ErrSingular {
		t.Error(e, f)
	}
}

func TestSignature(t *testing.T) { // P9.6
	r := rand.New(rand.NewSource(10))
	for i := range 300 {
		// c * d * transpose of c with an invertible matrix c and a diagonal matrix d.
		n := r.Intn(9)
		c := random(r, n, n)
		if det, _ := matrix.Det(c); rational.Sign(det) == 0 {
			c, _ = matrix.Identity(n)
		}
		d, _ := matrix.New(n, n)
		var want [3]int
		for j := range n {
			x := r.Intn(3) - 1
			d.A[j*n+j] = rational.Of(x * (1 + r.Intn(5)))
			want[x+1]++
		}
		tr, _ := matrix.Transpose(c)
		a, _ := matrix.Mul(c, d)
		a, _ = matrix.Mul(a, tr)
		if i%2 == 0 { // hyperbolic planes and zeros, without a diagonal
			a, _ = matrix.New(n, n)
			want = [3]int{n / 2, n % 2, n / 2}
			order := r.Perm(n)
			for j := 0; j+1 < n; j += 2 {
				x := rational.Of(1 + r.Intn(5))
				k, l := order[j], order[j+1]
				a.A[k*n+l], a.A[l*n+k] = x, api.Rat{Num: bigint.Mul(x.Num, bigint.Of(-2)), Den: bigint.Of(-2)}
			}
		}
		plus, minus, zero, e := matrix.Signature(a)
		if e != api.OK || [3]int{minus, zero, plus} != want {
			t.Fatal(a, plus, minus, zero, e, want)
		}
	}
	for _, c := range []struct {
		rows              [][]int
		plus, minus, zero int
	}{
		{nil, 0, 0, 0}, {[][]int{{0, 1}, {1, 0}}, 1, 1, 0}, {[][]int{{0}}, 0, 0, 1}, {[][]int{{2, 1}, {1, 2}}, 2, 0, 0}, {[][]int{{-2, 1}, {1, -2}}, 0, 2, 0}, {[][]int{{1, 1}, {1, 1}}, 1, 0, 1},
		{[][]int{{0, 1, 1}, {1, 0, 1}, {1, 1, 0}}, 1, 2, 0}, {[][]int{{0, 1, 2}, {1, 0, 3}, {2, 3, 0}}, 1, 2, 0}, {[][]int{{-1, 2}, {2, -4}}, 0, 1, 1}, {[][]int{{3, 0, 0}, {0, 0, 0}, {0, 0, -5}}, 1, 1, 1},
	} {
		plus, minus, zero, e := matrix.Signature(of(0, c.rows...))
		if e != api.OK || plus != c.plus || minus != c.minus || zero != c.zero {
			t.Error(c, plus, minus, zero, e)
		}
	}
	for _, a := range []api.Matrix{of(2, []int{1, 2}, []int{3, 4}), {Rows: 2, Cols: 2, A: parse("0 1 1/2 0")}, of(3, []int{1, 0, 0}, []int{0, 1, 1}, []int{0, -1, 1})} {
		if plus, minus, zero, e := matrix.Signature(a); e != api.ErrForm || plus+minus+zero != 0 {
			t.Error(a, plus, minus, zero, e)
		}
	}
	one, _ := matrix.Identity(1024)
	if plus, minus, zero, e := matrix.Signature(one); e != api.OK || plus != 1024 || minus+zero != 0 {
		t.Error(plus, minus, zero, e)
	}
}

func TestRanks(t *testing.T) { // P9.7
	sizes(11, 200, func(r *rand.Rand, a api.Matrix) {
		tr, _ := matrix.Transpose(a)
		n, e := matrix.Rank(a)
		m, f := matrix.Rank(tr)
		if n != m || e != api.OK || f != api.OK {
			t.Fatal(a, n, m, e, f)
		}
	})
}

func TestShapes(t *testing.T) { // the first error of every function
	good := of(3, []int{1, 2, 3}, []int{4, 5, 6})
	square := of(2, []int{1, 2}, []int{2, 1})
	type pair struct{ a, b api.Matrix }
	pairs := []pair{{good, square}, {square, good}, {good, of(2, []int{1, 2}, []int{3, 4}, []int{5, 6})}, {api.Matrix{Rows: 2}, api.Matrix{Cols: 2}}}
	var single []api.Matrix
	for _, m := range malformed() {
		single = append(single, m)
		pairs = append(pairs, pair{m, square}, pair{square, m}, pair{m, m})
	}
	wrong := func(name string, m api.Matrix, e api.Errno) {
		t.Helper()
		if e != api.ErrShape || !isZero(m) {
			t.Error(name, m, e)
		}
	}
	for _, p := range pairs {
		m, e := matrix.Add(p.a, p.b)
		wrong("Add", m, e)
		m, e = matrix.Sub(p.a, p.b)
		wrong("Sub", m, e)
	}
	for _, p := range append(pairs[4:], pair{good, square}, pair{good, good}, pair{api.Matrix{Rows: 2}, square}, pair{square, api.Matrix{Cols: 2}}) {
		m, e := matrix.Mul(p.a, p.b)
		wrong("Mul", m, e)
	}
	for _, a := range single {
		m, e := matrix.Scale(a, rational.Of(2))
		wrong("Scale", m, e)
		m, e = matrix.Transpose(a)
		wrong("Transpose", m, e)
		m, pivots, e := matrix.Echelon(a)
		wrong("Echelon", m, e)
		m, e = matrix.Kernel(a)
		wrong("Kernel", m, e)
		if n, e := matrix.Rank(a); n != 0 || e != api.ErrShape || len(pivots) != 0 {
			t.Error("Rank", a, n, e)
		}
		if x, e := matrix.Apply(make([]api.Rat, max(a.Rows, 0)%2000), a); len(x) != 0 || e != api.ErrShape {
			t.Error("Apply", a, e)
		}
		if x, e := matrix.Solve(a, make([]api.Rat, max(a.Cols, 0)%2000)); len(x) != 0 || e != api.ErrShape {
			t.Error("Solve", a, e)
		}
	}
	for _, a := range append(single, good, api.Matrix{Rows: 1}, api.Matrix{Cols: 1}) {
		m, e := matrix.Power(a, -1)
		wrong("Power", m, e)
		m, e = matrix.Inverse(a)
		wrong("Inverse", m, e)
		x, e := matrix.Det(a)
		wrong("Det", api.Matrix{Rows: len(x.Num.Mag) + len(x.Den.Mag)}, e)
		x, e = matrix.Trace(a)
		wrong("Trace", api.Matrix{Rows: len(x.Num.Mag) + len(x.Den.Mag)}, e)
		plus, minus, zero, e := matrix.Signature(a)
		wrong("Signature", api.Matrix{Rows: plus + minus + zero}, e)
	}
	for n := range 5 {
		if x, e := matrix.Apply(make([]api.Rat, n), good); n != 2 && (len(x) != 0 || e != api.ErrShape) {
			t.Error("Apply", n, e)
		}
		if x, e := matrix.Solve(good, make([]api.Rat, n)); n != 3 && (len(x) != 0 || e != api.ErrShape) {
			t.Error("Solve", n, e)
		}
	}
}

// Nothing is written into an argument, and no result shares memory with one.
func TestMemory(t *testing.T) { // R3
	r := rand.New(rand.NewSource(12))
	for i := range 60 {
		n := []int{2, 3, 9}[i%3]
		a, b := random(r, n, n), random(r, n, n)
		symmetric, _ := matrix.Mul(a, a)
		tr, _ := matrix.Transpose(symmetric)
		symmetric, _ = matrix.Add(symmetric, tr)
		x := random(r, 1, n).A
		before := text(slices.Concat(a.A, b.A, symmetric.A, x))
		var results [][]api.Rat
		keep := func(m api.Matrix, _ api.Errno) { results = append(results, m.A) }
		keep(matrix.Add(a, b))
		keep(matrix.Sub(a, b))
		keep(matrix.Scale(a, x[0]))
		keep(matrix.Mul(a, b))
		keep(matrix.Power(a, 1))
		keep(matrix.Power(a, 3))
		keep(matrix.Transpose(a))
		m, _, e := matrix.Echelon(a)
		keep(m, e)
		keep(matrix.Kernel(a))
		keep(matrix.Inverse(a))
		keep(matrix.FromRows(n, [][]api.Rat{x, x}))
		row, e := matrix.Row(a, 0)
		keep(api.Matrix{A: row}, e)
		row, e = matrix.Apply(x, a)
		keep(api.Matrix{A: row}, e)
		row, e = matrix.Solve(a, x)
		keep(api.Matrix{A: row}, e)
		det, e := matrix.Det(a)
		sum, _ := matrix.Trace(a)
		keep(api.Matrix{A: []api.Rat{det, sum}}, e)
		matrix.Signature(symmetric)
		matrix.Rank(a)
		for k, l := range results {
			checkMemory(t, "result "+string(rune('a'+k)), l)
		}
		if text(slices.Concat(a.A, b.A, symmetric.A, x)) != before {
			t.Fatal("an argument was changed")
		}
	}
}
