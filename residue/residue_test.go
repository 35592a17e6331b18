package residue

import (
	"math/big"
	"math/rand"
	"slices"
	"testing"

	"halfplane/api"
	"halfplane/bigint"
)

func toBig(a api.Int) *big.Int {
	z := new(big.Int)
	for _, d := range slices.Backward(a.Mag) {
		z.Lsh(z, 32).Or(z, big.NewInt(int64(d)))
	}
	if a.Neg {
		z.Neg(z)
	}
	return z
}

func randomInt(r *rand.Rand, n int) api.Int {
	mag := make([]uint32, r.Intn(n+1))
	for i := range mag {
		mag[i] = r.Uint32()
	}
	return api.Int{Neg: r.Intn(2) == 0, Mag: mag}
}

func TestPrimes(t *testing.T) {
	q := First()
	if q.p != 2147483647 {
		t.Error(q)
	}
	for range 300 {
		next := q.Next()
		for n := q.p - 1; n >= next.p; n-- {
			if prime := new(big.Int).SetUint64(n).ProbablyPrime(0); prime != (n == next.p) {
				t.Fatal(n, next)
			}
		}
		q = next
	}
	for n := 63; n < 50000; n += 2 {
		if isPrime(n) != big.NewInt(int64(n)).ProbablyPrime(0) {
			t.Fatal(n)
		}
	}
}

func TestResidues(t *testing.T) {
	r := rand.New(rand.NewSource(1))
	for _, p := range []int{2, 3, 5, 7, 65521, 2147483629, 2147483647} {
		q := Of(p)
		for range 500 {
			x := r.Uint64() >> r.Intn(64)
			if q.reduce(x) != x%uint64(p) {
				t.Fatal(p, x)
			}
			a := randomInt(r, 5)
			if q.Int(a) != new(big.Int).Mod(toBig(a), big.NewInt(int64(p))).Uint64() {
				t.Fatal(p, a)
			}
			y := x % uint64(p)
			if q.reduce(y+q.negative(y)) != 0 || y != 0 && q.reduce(y*q.invert(y)) != 1 {
				t.Fatal(p, y)
			}
		}
		for _, x := range []uint64{0, 1, q.p - 1, q.p, q.p + 1, 1<<63 - 1, 1 << 63, 1<<64 - 1, q.p * q.p} {
			if q.reduce(x) != x%q.p {
				t.Fatal(p, x)
			}
		}
	}
}

func randomRows(r *rand.Rand, q Prime, n, m, size int) [][]uint64 {
	rows := make([][]uint64, n)
	for i := range rows {
		rows[i] = make([]uint64, m)
		for j := range rows[i] {
			rows[i][j] = r.Uint64() % min(q.p, uint64(size))
		}
	}
	return rows
}

func clone(rows [][]uint64) [][]uint64 {
	l := make([][]uint64, len(rows))
	for i := range rows {
		l[i] = slices.Clone(rows[i])
	}
	return l
}

// rankOf returns the rank of a list of vectors modulo q, of few elements, by trying all combinations.
func rankOf(q Prime, rows [][]uint64) int {
	span := map[string]bool{}
	var all func(i int, v []uint64)
	all = func(i int, v []uint64) {
		if i == len(rows) {
			text := ""
			for _, x := range v {
				text += string(rune(x))
			}
			span[text] = true
			return
		}
		for c := range q.p {
			w := slices.Clone(v)
			for k := range w {
				w[k] = (w[k] + c*rows[i][k]) % q.p
			}
			all(i+1, w)
		}
	}
	all(0, make([]uint64, len(rows[0])))
	n, size := 0, 1
	for size < len(span) {
		size *= int(q.p)
		n++
	}
	return n
}

func TestEchelon(t *testing.T) {
	r := rand.New(rand.NewSource(2))
	for i := range 600 {
		q := Of([]int{2, 3, 5}[i%3])
		n, m := 1+r.Intn(3), 1+r.Intn(4)
		rows := randomRows(r, q, n, m, 1+i%5)
		reduced := clone(rows)
		pivots := q.Echelon(reduced)
		checkReduced(t, reduced, pivots)
		rank := rankOf(q, rows)
		if len(pivots) != rank || rankOf(q, append(clone(rows), reduced...)) != rank {
			t.Fatal(q, rows, reduced, pivots)
		}
	}
	if pivots := First().Echelon(nil); len(pivots) != 0 {
		t.Error(pivots)
	}
	if pivots := First().Echelon([][]uint64{{}, {}}); len(pivots) != 0 {
		t.Error(pivots)
	}
}

func checkReduced(t *testing.T, rows [][]uint64, pivots []int) {
	t.Helper()
	for i, row := range rows {
		first := slices.IndexFunc(row, func(x uint64) bool { return x != 0 })
		if i >= len(pivots) {
			if first >= 0 {
				t.Fatal(rows, pivots)
			}
			continue
		}
		if first != pivots[i] || row[first] != 1 || i > 0 && first <= pivots[i-1] {
			t.Fatal(rows, pivots)
		}
		for k := range rows {
			if k != i && rows[k][first] != 0 {
				t.Fatal(rows, pivots)
			}
		}
	}
}

// det returns a determinant by expansion along the first row.
func det(rows [][]*big.Int) *big.Int {
	if len(rows) == 0 {
		return big.NewInt(1)
	}
	sum := new(big.Int)
	for j, x := range rows[0] {
		var minor [][]*big.Int
		for _, row := range rows[1:] {
			minor = append(minor, slices.Concat(row[:j], row[j+1:]))
		}
		y := new(big.Int).Mul(x, det(minor))
		if j%2 == 1 {
			y.Neg(y)
		}
		sum.Add(sum, y)
	}
	return sum
}

func TestDetAndCharPoly(t *testing.T) {
	r := rand.New(rand.NewSource(3))
	for i := range 300 {
		q := Of([]int{2, 3, 7, 65521, 2147483647}[i%5])
		n := r.Intn(6)
		rows := randomRows(r, q, n, n, []int{2, 3, 1 << 40}[i%3])
		p := new(big.Int).SetUint64(q.p)
		value := func(x int64) uint64 { // det(x - rows)
			m := make([][]*big.Int, n)
			for i := range m {
				m[i] = make([]*big.Int, n)
				for j := range m[i] {
					m[i][j] = new(big.Int).SetUint64(rows[i][j])
					m[i][j].Neg(m[i][j])
					if i == j {
						m[i][j].Add(m[i][j], big.NewInt(x))
					}
				}
			}
			return new(big.Int).Mod(det(m), p).Uint64()
		}
		want := value(0)
		if n%2 == 1 {
			want = q.negative(want)
		}
		if got := q.Det(clone(rows)); got != want {
			t.Fatal(q, rows, got, want)
		}
		f := q.CharPoly(clone(rows))
		if len(f) != n+1 || f[n] != 1 {
			t.Fatal(q, rows, f)
		}
		for x := range int64(n + 1) {
			var y uint64
			for _, c := range slices.Backward(f) {
				y = q.reduce(y*q.reduce(uint64(x)) + c)
			}
			if y != value(x) {
				t.Fatal(q, rows, f, x)
			}
		}
	}
}

func TestInt(t *testing.T) {
	r := rand.New(rand.NewSource(4))
	for range 300 {
		var l Primes
		if bigint.Cmp(l.Product(), bigint.Of(1)) != 0 || bigint.Sign(l.Int(nil)) != 0 {
			t.Fatal("no primes")
		}
		q := First()
		var list []Prime
		product := big.NewInt(1)
		for range 1 + r.Intn(6) {
			list = append(list, q)
			l.Add(q)
			product.Mul(product, new(big.Int).SetUint64(q.p))
			for range 1 + r.Intn(3) {
				q = q.Next()
			}
		}
		if toBig(l.Product()).Cmp(product) != 0 {
			t.Fatal(list)
		}
		a := randomInt(r, len(list)-1)
		if r.Intn(3) == 0 { // one of the greatest that are possible
			half, _, _ := bigint.DivMod(l.Product(), bigint.Of(2))
			a = half
			if r.Intn(2) == 0 {
				a = bigint.Neg(half)
			}
		}
		var residues []uint64
		for _, q := range list {
			residues = append(residues, q.Int(a))
		}
		got := l.Int(residues)
		if bigint.Cmp(got, a) != 0 || len(got.Mag) > 0 && got.Mag[len(got.Mag)-1] == 0 || len(got.Mag) == 0 && got.Neg {
			t.Fatal(list, a, got)
		}
	}
}

func TestFraction(t *testing.T) {
	for _, m := range []int{101, 97, 1000} {
		bound := 1
		for 2*(bound+1)*(bound+1) < m {
			bound++
		}
		for a := range m {
			n, d, ok := Fraction(bigint.Of(a-m/3), bigint.Of(m), bigint.Of(bound))
			found := false
			for y := 1; y <= bound; y++ {
				for x := -bound; x <= bound; x++ {
					found = found || (x-(a-m/3)*y)%m == 0
				}
			}
			if ok != found {
				t.Fatal(a, m, ok)
			}
			if !ok {
				continue
			}
			x, _ := bigint.Small(n)
			y, _ := bigint.Small(d)
			if y < 1 || y > bound || x < -bound || x > bound || (x-(a-m/3)*y)%m != 0 {
				t.Fatal(a, m, x, y)
			}
		}
	}
}
