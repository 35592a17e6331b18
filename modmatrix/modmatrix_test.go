package modmatrix_test

import (
	"math"
	"math/big"
	"math/rand"
	"slices"
	"testing"

	"halfplane/api"
	"halfplane/bigint"
	"halfplane/charpoly"
	"halfplane/lattice"
	"halfplane/matrix"
	"halfplane/modmatrix"
	"halfplane/rational"
)

var primes = []int{2, 3, 5, 7, 101, 32749, 65519, 65521}

func TestReduce(t *testing.T) { // P13.1
	m, e := modmatrix.Reduce(api.Matrix{Rows: 1, Cols: 2, A: parse("1/2 -1")}, 5)
	check(t, "Reduce", m, e, table{2, [][]int{{3, 4}}})
	r := rand.New(rand.NewSource(1))
	for i := range 300 {
		p := primes[i%len(primes)]
		a := api.Matrix{Rows: i % 4, Cols: i % 5}
		want := table{cols: a.Cols}
		inexact := false
		for range a.Rows {
			var row []int
			for range a.Cols {
				x := api.Rat{Num: randomInt(r, 3), Den: randomInt(r, 2)}
				if r.Intn(3) == 0 {
					c := bigint.Of(p * (1 + r.Intn(3)))
					x = api.Rat{Num: bigint.Mul(x.Num, c), Den: c}
				}
				a.A = append(a.A, x)
				y := toRat(x)
				den := int(new(big.Int).Mod(y.Denom(), big.NewInt(int64(p))).Int64())
				if den == 0 {
					inexact = true
					continue
				}
				num := int(new(big.Int).Mod(y.Num(), big.NewInt(int64(p))).Int64())
				row = append(row, num*inverse(p, den)%p)
			}
			want.rows = append(want.rows, row)
		}
		m, e := modmatrix.Reduce(a, p)
		if inexact {
			if e != api.ErrInexact || m.Rows+m.Cols+len(m.A) != 0 {
				t.Fatal(p, a, m, e)
			}
			continue
		}
		check(t, "Reduce", m, e, want)
	}
	for _, s := range []string{"1/3", "0 1 2 5/6", "7/9"} {
		l := parse(s)
		if m, e := modmatrix.Reduce(api.Matrix{Rows: 1, Cols: len(l), A: l}, 3); e != api.ErrInexact || len(m.A) != 0 {
			t.Error(s, m, e)
		}
	}
	// What is read as 0 or as an integer has a residue.
	m, e = modmatrix.Reduce(api.Matrix{Rows: 1, Cols: 3, A: []api.Rat{{Num: bigint.Of(5)}, {Num: bigint.Of(-6), Den: bigint.Of(-3)}, {Num: minusZero, Den: bigint.Of(3)}}}, 3)
	check(t, "Reduce", m, e, table{3, [][]int{{0, 2, 0}}})
}

func TestMul(t *testing.T) { // P13.2
	r := rand.New(rand.NewSource(2))
	for i := range 300 {
		p := primes[i%len(primes)]
		a, b := random(r, i%4, i%5), random(r, i%5, i%6)
		m, e := modmatrix.Mul(p, a, b)
		check(t, "Mul", m, e, mul(p, toTable(p, a), toTable(p, b)))
	}
	// The greatest sums of products.
	a := api.FMatrix{Rows: 1, Cols: 1024, A: make([]int, 1024)}
	for i := range a.A {
		a.A[i] = -1
	}
	b := api.FMatrix{Rows: 1024, Cols: 1, A: a.A}
	m, e := modmatrix.Mul(65521, a, b)
	check(t, "Mul", m, e, table{1, [][]int{{1024}}})
}

func TestEchelon(t *testing.T) { // P13.2, P13.5
	m, pivots, e := modmatrix.Echelon(2, of(2, []int{1, 1}, []int{1, 0}))
	check(t, "Echelon", m, e, table{2, [][]int{{1, 0}, {0, 1}}})
	if !slices.Equal(pivots, []int{0, 1}) {
		t.Error(pivots)
	}
	r := rand.New(rand.NewSource(3))
	for i := range 600 {
		p := []int{2, 3, 5, 101, 65521}[i%5]
		a := random(r, i%7, i%6)
		if i%3 == 0 {
			a = randomOfRank(r, p, i%9, i%8, i%4)
		}
		want, columns, _ := reduce(p, toTable(p, a))
		m, pivots, e := modmatrix.Echelon(p, a)
		check(t, "Echelon", m, e, want)
		if !slices.Equal(pivots, columns) {
			t.Fatal(p, a, pivots, columns)
		}
		if n, e := modmatrix.Rank(p, a); e != api.OK || n != len(columns) {
			t.Fatal(p, a, n, e)
		}
		k, e := modmatrix.Kernel(p, a)
		check(t, "Kernel", k, e, kernelOf(p, toTable(p, a)))
	}
	k, e := modmatrix.Kernel(3, of(1, []int{1}, []int{1}, []int{2}))
	check(t, "Kernel", k, e, table{3, [][]int{{1, 0, 1}, {0, 1, 1}}})
	k, e = modmatrix.Kernel(3, of(0, nil, nil))
	check(t, "Kernel", k, e, table{2, [][]int{{1, 0}, {0, 1}}})
	k, e = modmatrix.Kernel(3, api.FMatrix{Cols: 2})
	check(t, "Kernel", k, e, table{0, nil})
	m, pivots, e = modmatrix.Echelon(3, api.FMatrix{Cols: 2})
	check(t, "Echelon", m, e, table{2, nil})
	if len(pivots) != 0 {
		t.Error(pivots)
	}
}

// The sums on the way are the greatest with great primes and many rows.
func TestGreatMatrices(t *testing.T) { // P13.2
	r := rand.New(rand.NewSource(4))
	n := 200
	a := random(r, n, n)
	for i := range a.A {
		a.A[i] = r.Int()
	}
	want, _, det := reduce(65521, toTable(65521, a))
	m, _, e := modmatrix.Echelon(65521, a)
	check(t, "Echelon", m, e, want)
	if d, e := modmatrix.Det(65521, a); e != api.OK || d != det {
		t.Error(d, e, det)
	}
	n = 1024
	a = api.FMatrix{Rows: n, Cols: n, A: make([]int, n*n)}
	for i := range n {
		for j := range n {
			a.A[i*n+j] = min(i, j) + 1 // the determinant is 1
		}
	}
	if k, e := modmatrix.Rank(65521, a); e != api.OK || k != n {
		t.Error(k, e)
	}
	if d, e := modmatrix.Det(65521, a); e != api.OK || d != 1 {
		t.Error(d, e)
	}
	k, e := modmatrix.Kernel(65521, a)
	check(t, "Kernel", k, e, table{n, nil})
}

func TestDetAndCharPoly(t *testing.T) { // P13.2
	r := rand.New(rand.NewSource(5))
	for i := range 400 {
		p := []int{2, 3, 13, 101, 65521}[i%5]
		a := random(r, i%8, i%8)
		if i%7 == 0 {
			a = random(r, 20, 20)
		}
		n := a.Rows
		if i%3 == 0 && n > 0 {
			a = randomOfRank(r, p, n, n, n-r.Intn(2))
		}
		_, _, want := reduce(p, toTable(p, a))
		if d, e := modmatrix.Det(p, a); e != api.OK || d != want {
			t.Fatal(p, a, d, e, want)
		}
		f, e := modmatrix.CharPoly(p, a)
		if e != api.OK || len(f) != n+1 || f[n] != 1 {
			t.Fatal(p, a, f, e)
		}
		// Its values are the determinants of x - a; for small primes they do not determine it.
		for x := range min(p, n+1) {
			m := toTable(p, a)
			for i, row := range m.rows {
				for j := range row {
					row[j] = residue(-row[j], p)
				}
				row[i] = (row[i] + x) % p
			}
			_, _, want := reduce(p, m)
			y := 0
			for _, c := range slices.Backward(f) {
				y = (y*x + c) % p
			}
			if y != want || slices.Min(f) < 0 || slices.Max(f) >= p {
				t.Fatal(p, a, f, x, want)
			}
		}
	}
	if d, e := modmatrix.Det(7, api.FMatrix{}); e != api.OK || d != 1 {
		t.Error(d, e)
	}
	if f, e := modmatrix.CharPoly(2, api.FMatrix{}); e != api.OK || !slices.Equal(f, api.FPoly{1}) {
		t.Error(f, e)
	}
	if f, e := modmatrix.CharPoly(2, of(2, []int{1, 1}, []int{1, 0})); e != api.OK || !slices.Equal(f, api.FPoly{1, 1, 1}) {
		t.Error(f, e)
	}
	if f, e := modmatrix.CharPoly(3, of(2, []int{1, -3}, []int{0, 1})); e != api.OK || !slices.Equal(f, api.FPoly{1, 1, 1}) {
		t.Error(f, e)
	}
}

// rationalMatrix returns a matrix of small fractions whose denominators p does not divide.
func rationalMatrix(r *rand.Rand, n, p int) api.Matrix {
	a := api.Matrix{Rows: n, Cols: n, A: make([]api.Rat, n*n)}
	for i := range a.A {
		den := 1 + r.Intn(9)
		for den%p == 0 {
			den = 1 + r.Intn(9)
		}
		a.A[i], _ = rational.Make(bigint.Of(r.Intn(41)-20), bigint.Of(den))
	}
	return a
}

func TestReductions(t *testing.T) { // P13.5
	r := rand.New(rand.NewSource(6))
	for i := range 200 {
		p := []int{2, 3, 5, 101, 65521}[i%5]
		n := i % 7
		if i%20 == 0 {
			n = 12
		}
		a := rationalMatrix(r, n, p)
		m, e := modmatrix.Reduce(a, p)
		if e != api.OK {
			t.Fatal(a, e)
		}
		rank, _ := matrix.Rank(a)
		if k, e := modmatrix.Rank(p, m); e != api.OK || k > rank {
			t.Fatal(a, p, k, e)
		}
		det, _ := matrix.Det(a)
		reduced, e := modmatrix.Reduce(api.Matrix{Rows: 1, Cols: 1, A: []api.Rat{det}}, p)
		if d, f := modmatrix.Det(p, m); e != api.OK || f != api.OK || d != reduced.A[0] {
			t.Fatal(a, p, d)
		}
		f, _ := charpoly.CharPoly(a)
		reduced, e = modmatrix.Reduce(api.Matrix{Rows: 1, Cols: len(f), A: f}, p)
		if g, f := modmatrix.CharPoly(p, m); e != api.OK || f != api.OK || !slices.Equal(g, reduced.A) {
			t.Fatal(a, p, g, reduced)
		}
	}
	// The greatest matrix with a characteristic polynomial: (x - 1)^64 = x^64 + 1 modulo 2.
	one, _ := matrix.Identity(64)
	m, _ := modmatrix.Reduce(one, 2)
	f, e := modmatrix.CharPoly(2, m)
	if e != api.OK || len(f) != 65 || f[0] != 1 || f[64] != 1 || slices.Max(f[1:64]) != 0 {
		t.Error(f, e)
	}
}

func TestChinese(t *testing.T) { // P13.3
	x, m, e := modmatrix.Chinese(integers(2, 3), integers(3, 5))
	checkInt(t, "Chinese", x, e, big.NewInt(8))
	checkInt(t, "modulus", m, e, big.NewInt(15))
	x, m, e = modmatrix.Chinese(nil, nil)
	checkInt(t, "Chinese", x, e, big.NewInt(0))
	checkInt(t, "modulus", m, e, big.NewInt(1))
	x, m, e = modmatrix.Chinese(integers(-1, 7, -5), integers(1, 1, 4))
	checkInt(t, "Chinese", x, e, big.NewInt(3))
	checkInt(t, "modulus", m, e, big.NewInt(4))
	r := rand.New(rand.NewSource(7))
	for range 400 {
		var residues, moduli []api.Int
		product := big.NewInt(1)
		want := api.OK
		for range r.Intn(6) {
			a, b := randomInt(r, 4), randomInt(r, 1+r.Intn(3))
			b.Neg = r.Intn(9) == 0
			residues, moduli = append(residues, a), append(moduli, b)
			n := toInt(b)
			switch {
			case want != api.OK:
			case n.Sign() <= 0:
				want = api.ErrRange
			case new(big.Int).GCD(nil, nil, n, product).Cmp(big.NewInt(1)) != 0:
				want = api.ErrCoprime
			}
			product.Mul(product, n)
		}
		x, m, e := modmatrix.Chinese(residues, moduli)
		if want != api.OK {
			if e != want || len(x.Mag)+len(m.Mag) != 0 {
				t.Fatal(residues, moduli, x, m, e)
			}
			continue
		}
		checkInt(t, "modulus", m, e, product)
		if !normalized(x) || toInt(x).Sign() < 0 || toInt(x).Cmp(product) >= 0 {
			t.Fatal(residues, moduli, x)
		}
		for i, b := range moduli {
			difference := new(big.Int).Sub(toInt(x), toInt(residues[i]))
			if difference.Mod(difference, toInt(b)).Sign() != 0 {
				t.Fatal(residues, moduli, x)
			}
		}
	}
	for _, c := range []struct {
		r, m []api.Int
		want api.Errno
	}{
		{integers(1), nil, api.ErrShape}, {nil, integers(0), api.ErrShape}, {integers(1, 2), integers(0), api.ErrShape},
		{integers(1), integers(0), api.ErrRange}, {integers(1), integers(-5), api.ErrRange}, {integers(1), []api.Int{minusZero}, api.ErrRange},
		{integers(1, 1), integers(6, 10), api.ErrCoprime}, {integers(1, 1, 1), integers(2, 3, 9), api.ErrCoprime},
		{integers(1, 1, 1), integers(2, 2, 0), api.ErrCoprime}, {integers(1, 1, 1), integers(2, 0, 2), api.ErrRange}, {integers(1, 1, 1, 1), integers(2, 3, 35, 30), api.ErrCoprime},
	} {
		if x, m, e := modmatrix.Chinese(c.r, c.m); e != c.want || len(x.Mag)+len(m.Mag) != 0 {
			t.Error(c, x, m, e)
		}
	}
}

func TestReconstruct(t *testing.T) { // P13.3, P13.5
	x, ok, e := modmatrix.Reconstruct(bigint.Of(51), bigint.Of(101))
	if e != api.OK || !ok || rational.Format(x) != "1/2" {
		t.Error(x, ok, e)
	}
	for m := 2; m < 90; m++ {
		bound := int(math.Sqrt(float64(m-1) / 2))
		for a := -3; a < m; a++ {
			x, ok, e := modmatrix.Reconstruct(bigint.Of(a), bigint.Of(m))
			want, found := reconstruct(a, m, bound)
			if e != api.OK || ok != found {
				t.Fatal(a, m, x, ok, e)
			}
			if !ok {
				if len(x.Num.Mag)+len(x.Den.Mag) != 0 {
					t.Fatal(a, m, x)
				}
				continue
			}
			checkInt(t, "numerator", x.Num, e, want.Num())
			checkInt(t, "denominator", x.Den, e, want.Denom())
		}
	}
	for _, m := range []api.Int{{}, minusZero, bigint.Of(1), bigint.Of(-7)} {
		if x, ok, e := modmatrix.Reconstruct(bigint.Of(1), m); e != api.ErrRange || ok || len(x.Num.Mag)+len(x.Den.Mag) != 0 {
			t.Error(m, x, ok, e)
		}
	}
	r := rand.New(rand.NewSource(8))
	for range 300 {
		// A fraction whose numerator or denominator is one of the greatest that are possible.
		m := toInt(randomInt(r, 8))
		m.Abs(m).Add(m, big.NewInt(3))
		bound := new(big.Int).Sub(m, big.NewInt(1))
		bound.Sqrt(bound.Rsh(bound, 1))
		n, d := new(big.Int).Set(bound), new(big.Int).Rand(r, bound)
		d.Add(d, big.NewInt(1))
		if r.Intn(2) == 0 {
			n, d = d, n
		}
		if new(big.Int).GCD(nil, nil, d, m).Cmp(big.NewInt(1)) != 0 {
			continue
		}
		if r.Intn(2) == 0 {
			n.Neg(n)
		}
		a := new(big.Int).ModInverse(d, m)
		a.Mul(a, n).Add(a, new(big.Int).Mul(m, big.NewInt(int64(r.Intn(5)-2))))
		x, ok, e := modmatrix.Reconstruct(fromInt(a), fromInt(m))
		want := new(big.Rat).SetFrac(n, d)
		if !ok || toRat(x).Cmp(want) != 0 {
			t.Fatal(a, m, x, ok, e, want)
		}
		checkInt(t, "numerator", x.Num, e, want.Num())
	}
}

func fromInt(a *big.Int) api.Int {
	z, _ := bigint.Parse(a.String())
	return z
}

// reconstruct looks for the fraction by trying all of them.
func reconstruct(a, m, bound int) (*big.Rat, bool) {
	for d := 1; d <= bound; d++ {
		for n := -bound; n <= bound; n++ {
			if (n-a*d)%m == 0 && new(big.Int).GCD(nil, nil, big.NewInt(int64(d)), big.NewInt(int64(m))).Int64() == 1 {
				return big.NewRat(int64(n), int64(d)), true
			}
		}
	}
	return nil, false
}

func TestDeterminants(t *testing.T) { // P13.4, P13.5
	r := rand.New(rand.NewSource(9))
	for i := range 200 {
		n := i % 8
		if i%40 == 0 {
			n = 25
		}
		a := api.ZMatrix{Rows: n, Cols: n, A: make([]api.Int, n*n)}
		for i := range a.A {
			a.A[i] = randomInt(r, 1+r.Intn(5))
		}
		if i%5 == 0 && n > 1 {
			copy(a.A, a.A[n:2*n])
		}
		bound := big.NewInt(1)
		for i := range n {
			sum := new(big.Int)
			for _, x := range a.A[i*n : (i+1)*n] {
				sum.Add(sum, new(big.Int).Mul(toInt(x), toInt(x)))
			}
			bound.Mul(bound, sum.Sqrt(sum).Add(sum, big.NewInt(1)))
		}
		h, e := modmatrix.Hadamard(a)
		checkInt(t, "Hadamard", h, e, bound)
		want, _ := lattice.Det(a)
		d, e := modmatrix.DetByPrimes(a)
		checkInt(t, "DetByPrimes", d, e, toInt(want))
		if toInt(d).CmpAbs(bound) > 0 {
			t.Fatal(a, d, bound)
		}
	}
	h, e := modmatrix.Hadamard(square(2, 3, 4, 0, 1))
	checkInt(t, "Hadamard", h, e, big.NewInt(12))
	h, e = modmatrix.Hadamard(api.ZMatrix{})
	checkInt(t, "Hadamard", h, e, big.NewInt(1))
	h, e = modmatrix.Hadamard(square(2, 0, 0, 1, 1))
	checkInt(t, "Hadamard", h, e, big.NewInt(2))
	for _, c := range []struct {
		m    api.ZMatrix
		want int64
	}{
		{api.ZMatrix{}, 1}, {square(1, -7), -7}, {square(1, 0), 0}, {square(2, 1, 2, 3, 4), -2}, {square(2, 0, 1, 1, 0), -1}, {square(2, 1, 2, 2, 4), 0}, {square(1, math.MinInt32), math.MinInt32},
		{square(1, math.MaxInt), math.MaxInt}, {square(3, 2, 0, 0, 0, 3, 0, 0, 0, 5), 30},
	} {
		d, e := modmatrix.DetByPrimes(c.m)
		checkInt(t, "DetByPrimes", d, e, big.NewInt(c.want))
	}
	// Determinants that are, but for their signs, close to the bound.
	for n := range 5 {
		a := api.ZMatrix{Rows: n, Cols: n, A: make([]api.Int, n*n)}
		want := big.NewInt(1)
		for i := range n {
			a.A[i*n+i], _ = bigint.Pow(bigint.Of(-2), 31*(n+1)+1)
			want.Mul(want, toInt(a.A[i*n+i]))
		}
		d, e := modmatrix.DetByPrimes(a)
		checkInt(t, "DetByPrimes", d, e, want)
	}
}

// invalid are sizes of matrices that are not valid, with the numbers of their elements.
var invalid = [][3]int{{1, 1, 0}, {1, 1, 2}, {-1, -1, 1}, {-1, 0, 0}, {0, -1, 0}, {0, 1025, 0}, {1025, 0, 0}, {1025, 1, 1025}, {math.MinInt, 2, 0}, {1 << 32, 1 << 32, 0}}

func TestShapes(t *testing.T) { // the first error of every function
	one := of(1, []int{1})
	for _, p := range []int{-7, 0, 1, 4, 65520, 65537, 2147483647, math.MaxInt, math.MinInt, 5, 2, 65521} {
		want := api.ErrPrime
		if p == 2 || p == 5 || p == 65521 {
			want = api.ErrShape
		}
		for _, s := range invalid {
			a := api.FMatrix{Rows: s[0], Cols: s[1], A: make([]int, s[2])}
			checkErrors(t, p, a, want)
			for _, l := range [][2]api.FMatrix{{a, one}, {one, a}} {
				if m, e := modmatrix.Mul(p, l[0], l[1]); e != want || m.Rows+m.Cols+len(m.A) != 0 {
					t.Error("Mul", p, s, m, e)
				}
			}
			if m, e := modmatrix.Reduce(api.Matrix{Rows: s[0], Cols: s[1], A: make([]api.Rat, s[2])}, p); e != want || m.Rows+m.Cols+len(m.A) != 0 {
				t.Error("Reduce", p, s, m, e)
			}
		}
		wide := of(2, []int{1, 2})
		if d, e := modmatrix.Det(p, wide); e != want || d != 0 {
			t.Error("Det", p, d, e)
		}
		if f, e := modmatrix.CharPoly(p, wide); e != want || len(f) != 0 {
			t.Error("CharPoly", p, f, e)
		}
		if m, e := modmatrix.Mul(p, wide, wide); e != want || m.Rows+m.Cols+len(m.A) != 0 {
			t.Error("Mul", p, m, e)
		}
		if m, e := modmatrix.Reduce(api.Matrix{Rows: 1, Cols: 1, A: parse("1/10")}, p); e == api.OK && p != 65521 || want == api.ErrPrime && e != want || m.Rows != 0 && p != 65521 {
			t.Error("Reduce", p, m, e)
		}
		if want == api.ErrPrime {
			checkErrors(t, p, one, want)
		}
	}
	for _, s := range append(invalid, [3]int{1, 2, 2}, [3]int{0, 1, 0}) {
		a := api.ZMatrix{Rows: s[0], Cols: s[1], A: make([]api.Int, s[2])}
		if h, e := modmatrix.Hadamard(a); e != api.ErrShape || len(h.Mag) != 0 {
			t.Error("Hadamard", s, h, e)
		}
		if d, e := modmatrix.DetByPrimes(a); e != api.ErrShape || len(d.Mag) != 0 {
			t.Error("DetByPrimes", s, d, e)
		}
	}
	for _, c := range []struct {
		rows, cols int
		want       api.Errno
	}{{64, 64, api.OK}, {65, 65, api.ErrLarge}, {65, 66, api.ErrShape}, {1024, 1024, api.ErrLarge}} {
		f, e := modmatrix.CharPoly(2, api.FMatrix{Rows: c.rows, Cols: c.cols, A: make([]int, c.rows*c.cols)})
		if e != c.want || (len(f) == 0) != (e != api.OK) {
			t.Error(c, f, e)
		}
	}
}

// checkErrors checks the error of the functions of one matrix.
func checkErrors(t *testing.T, p int, a api.FMatrix, want api.Errno) {
	t.Helper()
	if m, l, e := modmatrix.Echelon(p, a); e != want || m.Rows+m.Cols+len(m.A)+len(l) != 0 {
		t.Error("Echelon", p, a, m, l, e)
	}
	if n, e := modmatrix.Rank(p, a); e != want || n != 0 {
		t.Error("Rank", p, a, n, e)
	}
	if m, e := modmatrix.Kernel(p, a); e != want || m.Rows+m.Cols+len(m.A) != 0 {
		t.Error("Kernel", p, a, m, e)
	}
	if d, e := modmatrix.Det(p, a); e != want || d != 0 {
		t.Error("Det", p, a, d, e)
	}
	if f, e := modmatrix.CharPoly(p, a); e != want || len(f) != 0 {
		t.Error("CharPoly", p, a, f, e)
	}
}

// Nothing is written into an argument, and no result shares memory with one or another.
func TestMemory(t *testing.T) { // R3
	r := rand.New(rand.NewSource(10))
	for range 30 {
		a, b := random(r, 4, 4), random(r, 4, 4)
		before := slices.Concat(a.A, b.A)
		m, _ := modmatrix.Mul(7, a, b)
		e, pivots, _ := modmatrix.Echelon(7, a)
		k, _ := modmatrix.Kernel(7, b)
		f, _ := modmatrix.CharPoly(7, a)
		modmatrix.Rank(7, a)
		modmatrix.Det(7, b)
		for _, l := range [][]int{m.A, e.A, pivots, k.A, f} {
			for i := range l[:cap(l)] {
				l[:cap(l)][i] = -1
			}
		}
		if !slices.Equal(before, slices.Concat(a.A, b.A)) {
			t.Fatal("an argument was changed")
		}
		residues, moduli := []api.Int{randomInt(r, 3), randomInt(r, 3)}, integers(1, 7)
		residues[0].Neg = false
		z := api.ZMatrix{Rows: 1, Cols: 1, A: []api.Int{randomInt(r, 3)}}
		arguments := text(residues...) + text(moduli...) + text(z.A...)
		x, modulus, _ := modmatrix.Chinese(residues, moduli)
		y, n, _ := modmatrix.Chinese(residues[:1], []api.Int{{Mag: []uint32{1, 2, 3, 0}}})
		products := text(modulus, n)
		overwrite(x)
		overwrite(y)
		if text(modulus, n) != products {
			t.Fatal("two results share memory")
		}
		overwrite(modulus)
		overwrite(n)
		h, _ := modmatrix.Hadamard(z)
		d, _ := modmatrix.DetByPrimes(z)
		overwrite(h)
		overwrite(d)
		c, _, _ := modmatrix.Reconstruct(moduli[1], api.Int{Mag: []uint32{1, 1, 0}})
		den := text(c.Den)
		overwrite(c.Num)
		if text(c.Den) != den {
			t.Fatal("a numerator shares memory with its denominator")
		}
		overwrite(c.Den)
		if text(residues...)+text(moduli...)+text(z.A...) != arguments {
			t.Fatal("an argument was changed")
		}
	}
}
