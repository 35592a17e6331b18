package theta_test

import (
	"math"
	"math/big"
	"math/rand"
	"slices"
	"testing"

	"halfplane/api"
	"halfplane/series"
	"halfplane/theta"
)

func TestCheck(t *testing.T) { // P36.1
	for _, g := range samples(rand.New(rand.NewSource(361))) {
		if e := theta.Check(g); e != api.OK {
			t.Errorf("Check(%v): %d", g, e)
		}
	}
	good := of(2)
	for want, l := range invalid() {
		for _, g := range l {
			if e := theta.Check(g); e != want {
				t.Errorf("Check(%v): %d", g, e)
			}
			for name, f := range map[string]func() (any, api.Errno){
				"Det":       func() (any, api.Errno) { x, e := theta.Det(g); return x, e },
				"Level":     func() (any, api.Errno) { x, e := theta.Level(g); return x, e },
				"Disc":      func() (any, api.Errno) { x, e := theta.Disc(g); return x, e },
				"Vectors":   func() (any, api.Errno) { x, e := theta.Vectors(g, 2000); return x, e },
				"Expansion": func() (any, api.Errno) { x, e := theta.Expansion(g, -1); return x, e },
				"Sum":       func() (any, api.Errno) { x, e := theta.Sum(g, of(1)); return x, e },
				"Sum, b":    func() (any, api.Errno) { x, e := theta.Sum(good, g); return x, e },
				"Scale":     func() (any, api.Errno) { x, e := theta.Scale(g, 0); return x, e },
				"Change":    func() (any, api.Errno) { x, e := theta.Change(g, nil); return x, e },
				"Harmonic":  func() (any, api.Errno) { x, e := theta.Harmonic(g, make([]api.Monomial, 61)); return x, e },
				"Weighted":  func() (any, api.Errno) { x, e := theta.Weighted(g, make([]api.Monomial, 61), -1); return x, e },
			} {
				x, e := f()
				expectError(t, name, x, e, want)
			}
		}
	}
	// The errors of a come before those of b and before that of the rank.
	x, e := theta.Sum(of(1), api.Gram{})
	expectError(t, "Sum", x, e, api.ErrForm)
	x, e = theta.Sum(eight(), of(0))
	expectError(t, "Sum", x, e, api.ErrDefinite)
}

// levelOf tries one number after another; it returns 0 for more than 600.
func levelOf(g api.Gram) int {
	inverse, _ := invert(g.Rank, g.A)
	for n := int64(1); n <= 600; n++ {
		good := true
		for i, row := range inverse {
			for j, x := range row {
				y := new(big.Rat).Mul(x, big.NewRat(n, 1))
				if i == j {
					y.Mul(y, big.NewRat(1, 2))
				}
				good = good && y.IsInt()
			}
		}
		if good {
			return int(n)
		}
	}
	return 0
}

// discOf returns D by factoring the determinant, if all its prime divisors with odd
// exponents are small; otherwise 0.
func discOf(g api.Gram) int {
	_, x := invert(g.Rank, g.A)
	d := int64(1)
	rest := new(big.Int).Set(x.Num())
	for p := int64(2); p <= 600; p++ {
		for q := big.NewInt(p); new(big.Int).Mod(rest, q).Sign() == 0; rest.Div(rest, q) {
			if d%p == 0 {
				d /= p
			} else {
				d *= p
			}
		}
	}
	if root := new(big.Int).Sqrt(rest); root.Mul(root, root).Cmp(rest) != 0 {
		return 0
	}
	if g.Rank%4 == 2 {
		d = -d
	}
	if (d%4+4)%4 != 1 {
		d *= 4
	}
	if d > 600 || d < -600 {
		return 0
	}
	return int(d)
}

func TestInvariants(t *testing.T) { // P36.2
	r := rand.New(rand.NewSource(362))
	l := append(samples(r), of(600), of(300), of(302), of(150), of(2, 0, 0, 598), of(2, 1, 1, 300), diagonal(2, 2, 2, 2, 2, 2, 2, 1000), diagonal(1000, 998, 996, 994, 992, 990, 988, 986))
	for range 200 {
		l = append(l, random(r, 1+r.Intn(8), 1+r.Intn(3)))
	}
	for _, g := range l {
		_, want := invert(g.Rank, g.A)
		if d, e := theta.Det(g); e != api.OK || !sameInt(d, fromBig(want.Num())) {
			t.Errorf("Det(%v): %v, %d; want %v", g, d, e, want)
		}
		n, e := theta.Level(g)
		if want := levelOf(g); want == 0 {
			expectError(t, "Level", n, e, api.ErrLarge)
		} else if e != api.OK || n != want {
			t.Errorf("Level(%v): %d, %d; want %d", g, n, e, want)
		}
		d, e := theta.Disc(g)
		switch want := discOf(g); {
		case g.Rank%2 == 1:
			expectError(t, "Disc", d, e, api.ErrParity)
		case want == 0:
			expectError(t, "Disc", d, e, api.ErrLarge)
		case e != api.OK || d != want:
			t.Errorf("Disc(%v): %d, %d; want %d", g, d, e, want)
		}
	}
}

func TestVectors(t *testing.T) { // P36.3
	r := rand.New(rand.NewSource(363))
	for _, g := range samples(r) {
		for _, n := range []int{0, 1, 2, 3, 4, 7, 20} {
			got, e := theta.Vectors(g, n)
			if tooLarge(g, n) {
				expectError(t, "Vectors", got, e, api.ErrLarge)
				continue
			}
			want := vectorsUpTo(g, n)[n]
			if e != api.OK || !slices.EqualFunc(got, want, slices.Equal) {
				t.Errorf("Vectors(%v, %d): %v, %d; want %v", g, n, got, e, want)
			}
		}
		for _, n := range []int{-1, -5, math.MinInt} {
			if got, e := theta.Vectors(g, n); e != api.OK || len(got) != 0 {
				t.Errorf("Vectors(%v, %d): %v, %d", g, n, got, e)
			}
		}
		for _, n := range []int{1001, math.MaxInt} {
			got, e := theta.Vectors(g, n)
			expectError(t, "Vectors", got, e, api.ErrRange)
		}
	}
	got, e := theta.Vectors(of(2), 1000)
	if e != api.OK || len(got) != 0 {
		t.Errorf("Vectors: %v, %d", got, e)
	}
	got, e = theta.Vectors(of(20), 1000)
	if e != api.OK || !slices.EqualFunc(got, [][]int{{-10}, {10}}, slices.Equal) {
		t.Errorf("Vectors: %v, %d", got, e)
	}
}

// needle returns a form whose inverse has great elements.
func needle(t *testing.T) api.Gram {
	return must(t)(theta.Change(diagonal(2, 2, 2), []int{1, 0, 0, 7, 1, 0, 0, 11, 1}))
}

func TestBox(t *testing.T) { // P36.3, P36.4: the limit of the box
	r := rand.New(rand.NewSource(364))
	l := []api.Gram{eight(), rootLattice(4), rootLattice(5), diagonal(2, 2, 2, 2), needle(t), diagonal(1000, 1000, 1000, 1000, 1000, 1000, 2, 2)}
	for range 8 {
		l = append(l, random(r, 3+r.Intn(6), 2))
	}
	for _, g := range l {
		// The greatest n whose box is small enough, and the next one.
		n := 0
		for n < 1000 && !tooLarge(g, n+1) {
			n++
		}
		if _, e := theta.Vectors(g, n); e != api.OK {
			t.Errorf("Vectors(%v, %d): %d", g, n, e)
		}
		if n == 1000 {
			continue
		}
		got, e := theta.Vectors(g, n+1)
		expectError(t, "Vectors", got, e, api.ErrLarge)
		if a, e := theta.Expansion(g, n+1); e != api.OK || len(a.Coef) != n+1 {
			t.Errorf("Expansion(%v, %d): %d coefficients, %d", g, n+1, len(a.Coef), e)
		}
		a, e := theta.Expansion(g, n+2)
		expectError(t, "Expansion", a, e, api.ErrLarge)
		a, e = theta.Weighted(g, nil, n+2)
		expectError(t, "Weighted", a, e, api.ErrLarge)
		if a, e := theta.Weighted(g, nil, n+1); e != api.OK || a.From != n+1 || len(a.Coef) != 0 {
			t.Errorf("Weighted(%v): %v, %d", g, a, e)
		}
	}
	// A form whose box is much greater than the limit already in one direction.
	u := diagonal(1, 1, 1, 1, 1, 1, 1, 1).A
	for i := range 7 {
		u[(i+1)*8+i] = -22
	}
	long := must(t)(theta.Change(diagonal(2, 2, 2, 2, 2, 2, 2, 2), u))
	l2, e := theta.Vectors(long, 0)
	if e != api.OK || !slices.EqualFunc(l2, [][]int{make([]int, 8)}, slices.Equal) {
		t.Errorf("Vectors(%v, 0): %v, %d", long, l2, e)
	}
	for _, n := range []int{1, 1000} {
		l2, e = theta.Vectors(long, n)
		expectError(t, "Vectors", l2, e, api.ErrLarge)
	}
	checkAlike(t, long, diagonal(2, 2, 2, 2, 2, 2, 2, 2))
}

func TestExpansion(t *testing.T) { // P36.4
	r := rand.New(rand.NewSource(365))
	for _, g := range samples(r) {
		for _, prec := range []int{0, 1, 2, 9, 20} {
			got, e := theta.Expansion(g, prec)
			if tooLarge(g, max(0, prec-1)) {
				expectError(t, "Expansion", got, e, api.ErrLarge)
				continue
			}
			vectors := vectorsUpTo(g, max(0, prec-1))
			coef := make([]*big.Rat, prec)
			for n := range coef {
				coef[n] = big.NewRat(int64(len(vectors[n])), 1)
			}
			if e != api.OK || !alike(got, written(coef)) {
				t.Errorf("Expansion(%v, %d): %v, %d", g, prec, got, e)
			}
		}
		for _, prec := range []int{-1, 1001, math.MinInt, math.MaxInt} {
			got, e := theta.Expansion(g, prec)
			expectError(t, "Expansion", got, e, api.ErrRange)
		}
	}
	// The squares, and sums of two squares by the divisors of the form 4 k + 1 and 4 k + 3.
	got, e := theta.Expansion(of(2), 1000)
	squares := make([]*big.Rat, 1000)
	sums := make([]*big.Rat, 1000)
	for n := range squares {
		root := int64(math.Sqrt(float64(n)))
		squares[n] = big.NewRat(0, 1)
		if root*root == int64(n) {
			squares[n].SetInt64(2 - max(0, int64(1-n)))
		}
		count := int64(0)
		for d := 1; d <= n; d += 2 {
			if n%d == 0 {
				count += int64(4 * (2 - d%4))
			}
		}
		sums[n] = big.NewRat(max(count, int64(1-n)), 1)
	}
	if e != api.OK || !alike(got, written(squares)) {
		t.Errorf("Expansion of squares: %v, %d", got, e)
	}
	got, e = theta.Expansion(diagonal(2, 2), 1000)
	if e != api.OK || !alike(got, written(sums)) {
		t.Errorf("Expansion of sums of two squares: %v, %d", got, e)
	}
	got, e = theta.Expansion(eight(), 1)
	if e != api.OK || !alike(got, written(integers(1))) {
		t.Errorf("Expansion of E8: %v, %d", got, e)
	}
}

func TestExamples(t *testing.T) { // P36.2, P36.3, P36.4
	for _, c := range []struct {
		g                api.Gram
		det, level, disc int
		coef             []int64
	}{
		{diagonal(2, 2), 4, 4, -4, []int64{1, 4, 4}},
		{of(2, 1, 1, 2), 3, 3, -3, []int64{1, 6, 0, 6}},
		{of(2), 2, 4, 0, []int64{1, 2}},
		{rootLattice(4), 5, 5, 5, []int64{1, 20}},
	} {
		if d, e := theta.Det(c.g); e != api.OK || toBig(d).Int64() != int64(c.det) {
			t.Errorf("Det(%v): %v, %d", c.g, d, e)
		}
		if n, e := theta.Level(c.g); e != api.OK || n != c.level {
			t.Errorf("Level(%v): %d, %d", c.g, n, e)
		}
		d, e := theta.Disc(c.g)
		if c.disc == 0 {
			expectError(t, "Disc", d, e, api.ErrParity)
		} else if e != api.OK || d != c.disc {
			t.Errorf("Disc(%v): %d, %d", c.g, d, e)
		}
		if a, e := theta.Expansion(c.g, len(c.coef)); e != api.OK || !alike(a, written(integers(c.coef...))) {
			t.Errorf("Expansion(%v): %v, %d", c.g, a, e)
		}
	}
	l, e := theta.Vectors(diagonal(2, 2), 1)
	if e != api.OK || !slices.EqualFunc(l, [][]int{{-1, 0}, {0, -1}, {0, 1}, {1, 0}}, slices.Equal) {
		t.Errorf("Vectors: %v, %d", l, e)
	}
}

func TestConsequences(t *testing.T) { // P36.7
	r := rand.New(rand.NewSource(366))
	for range 60 {
		a, b := random(r, 1+r.Intn(2), 2), random(r, 1+r.Intn(2), 2)
		f, _ := theta.Expansion(a, 12)
		g, _ := theta.Expansion(b, 12)
		want, _ := series.Mul(f, g)
		if got, e := theta.Expansion(must(t)(theta.Sum(a, b)), 12); e != api.OK || !alike(got, want) {
			t.Errorf("the sum of %v and %v: %v, %d", a, b, got, e)
		}
		want, _ = series.Expand(f, 3)
		want, _ = series.Cut(want, 12)
		if got, e := theta.Expansion(must(t)(theta.Scale(a, 3)), 12); e != api.OK || !alike(got, want) {
			t.Errorf("3 times %v: %v, %d", a, got, e)
		}
		checkDivisors(t, random(r, 2+2*r.Intn(3), 3))
		counts, _ := theta.Expansion(a, 12)
		for n := range 12 {
			l, e := theta.Vectors(a, n)
			if c, _ := series.At(counts, n); e != api.OK || toRat(c).Cmp(big.NewRat(int64(len(l)), 1)) != 0 {
				t.Errorf("%v has %d vectors with the value %d", a, len(l), n)
			}
			for i, x := range l {
				for j := range x {
					if l[len(l)-1-i][j] != -x[j] {
						t.Errorf("%v is among the vectors of %v, its negative is not", x, a)
					}
				}
			}
		}
	}
}

// checkDivisors checks the level and the discriminant of a form of even rank.
func checkDivisors(t *testing.T, g api.Gram) {
	t.Helper()
	d, _ := theta.Det(g)
	n, e := theta.Level(g)
	disc, e2 := theta.Disc(g)
	if e != api.OK || e2 != api.OK {
		return
	}
	det := toBig(d)
	if new(big.Int).Mod(new(big.Int).Lsh(det, 1), big.NewInt(int64(n))).Sign() != 0 {
		t.Errorf("the level %d of %v does not divide 2 %v", n, g, det)
	}
	if n%disc != 0 {
		t.Errorf("%d does not divide the level %d of %v", disc, n, g)
	}
	for p := 2; p <= 600; p++ {
		prime := big.NewInt(int64(p))
		if prime.ProbablyPrime(10) && (n%p == 0) != (new(big.Int).Mod(det, prime).Sign() == 0) {
			t.Errorf("%d divides one of the level and the determinant of %v", p, g)
		}
	}
}
