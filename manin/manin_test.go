package manin_test

import (
	"math"
	"math/big"
	"math/rand"
	"testing"

	"halfplane/api"
	"halfplane/dimension"
	"halfplane/manin"
)

var (
	matrixS = api.Mat2{A: 0, B: -1, C: 1, D: 0}
	matrixR = api.Mat2{A: 0, B: -1, C: 1, D: -1}
)

func TestSpaces(t *testing.T) { // P40.1: the error of the space is the first one
	for _, s := range wrong() {
		want := dimension.Check(s)
		if want == api.OK {
			t.Fatalf("%v is valid", s)
		}
		n, e := manin.Count(s)
		expectError(t, "Count", n, e, want)
		x, e := manin.Symbol(s, -1)
		expectError(t, "Symbol", x, e, want)
		n, sign, e := manin.Number(s, api.Manin{Exp: -1})
		expectError(t, "Number", [2]int{n, sign}, e, want)
		v, e := manin.Apply(s, -1, api.Mat2{A: math.MaxInt})
		expectError(t, "Apply", v, e, want)
		n, sign, e = manin.Star(s, -1)
		expectError(t, "Star", [2]int{n, sign}, e, want)
		m, e := manin.Relations(s)
		expectError(t, "Relations", m, e, want)
	}
}

func TestCount(t *testing.T) { // P40.1
	for level := 1; level <= 120; level++ {
		psi := 0
		for d := 1; d <= level; d++ {
			// The number of cosets is the sum of phi(gcd(d, N/d)) N/d/gcd(d, N/d) over the
			// divisors d.
			if level%d == 0 {
				g := gcd(d, level/d)
				for a := range g {
					if gcd(a, g) == 1 {
						psi += level / d / g
					}
				}
			}
		}
		for weight := 2; weight <= 24; weight++ {
			for _, disc := range []int{1, -3, -4, 5, -7, 8, -8} {
				s := spec(level, weight, disc)
				n, e := manin.Count(s)
				if want := dimension.Check(s); want != api.OK {
					expectError(t, "Count", n, e, want)
				} else if e != api.OK || n != (weight-1)*psi {
					t.Errorf("Count(%v): %d, %d", s, n, e)
				}
			}
		}
	}
}

func TestSymbol(t *testing.T) { // P40.1
	for _, s := range spaces() {
		o := oracleOf(checked(t, s))
		for n := range o.count() {
			p := o.pairs[n%len(o.pairs)]
			want := api.Manin{Exp: n / len(o.pairs), U: p[0], V: p[1]}
			if x, e := manin.Symbol(s, n); e != api.OK || x != want {
				t.Errorf("Symbol(%v, %d): %v, %d", s, n, x, e)
			}
		}
		for _, n := range []int{math.MinInt, -1, o.count(), o.count() + 1, math.MaxInt} {
			x, e := manin.Symbol(s, n)
			expectError(t, "Symbol", x, e, api.ErrRange)
		}
	}
}

func TestNumber(t *testing.T) { // P40.1, P40.3
	for _, s := range spaces() {
		o := oracleOf(checked(t, s))
		for i := 0; i <= s.Weight-2; i += max(1, s.Weight/4) {
			for u := -3; u < s.Level+5; u += 1 + s.Level/40 {
				for v := -s.Level - 2; v < s.Level+3; v += 1 + s.Level/40 {
					n, sign, e := manin.Number(s, api.Manin{Exp: i, U: u, V: v})
					p, ok := o.place[[2]int{remainder(u, s.Level), remainder(v, s.Level)}]
					if !ok {
						expectError(t, "Number", [2]int{n, sign}, e, api.ErrMember)
					} else if e != api.OK || n != i*len(o.pairs)+p[0] || sign != p[1] {
						t.Errorf("Number(%v, {%d, %d, %d}): %d, %d, %d; want %d, %d", s, i, u, v, n, sign, e, i*len(o.pairs)+p[0], p[1])
					}
				}
			}
		}
	}
}

func TestNumberLimits(t *testing.T) { // P40.1: U and V may be any integers
	great := []int{math.MinInt, math.MinInt + 1, -1 << 40, 1 << 31, 1<<31 + 1, math.MaxInt - 1, math.MaxInt}
	for _, s := range spaces() {
		o := oracleOf(s)
		for _, u := range great {
			for _, v := range append([]int{0, 1}, great...) {
				n, sign, e := manin.Number(s, api.Manin{U: u, V: v})
				p, ok := o.place[[2]int{(u%s.Level + s.Level) % s.Level, (v%s.Level + s.Level) % s.Level}]
				if !ok {
					expectError(t, "Number", [2]int{n, sign}, e, api.ErrMember)
				} else if e != api.OK || n != p[0] || sign != p[1] {
					t.Errorf("Number(%v, {0, %d, %d}): %d, %d, %d", s, u, v, n, sign, e)
				}
			}
		}
		for _, i := range []int{math.MinInt, -1, s.Weight - 1, s.Weight, math.MaxInt} {
			for _, v := range []int{0, 1} { // {0, 0} is no symbol, but the exponent comes first
				n, sign, e := manin.Number(s, api.Manin{Exp: i, V: v})
				expectError(t, "Number", [2]int{n, sign}, e, api.ErrRange)
			}
		}
	}
}

func TestApply(t *testing.T) { // P40.1
	r := rand.New(rand.NewSource(401))
	const most = 1 << 30
	for _, s := range spaces() {
		o := oracleOf(s)
		matrices := []api.Mat2{
			matrixS, matrixR, {A: 1, D: 1}, {}, {A: most, B: -most, C: -most, D: most}, {A: most, B: most - 1, C: most, D: -most},
			{A: 5, B: 5, C: 5, D: 5}, {A: s.Level, D: 1}, {A: 1, D: s.Level}, {B: 7, C: 2}, randomMatrix(r, 9), randomMatrix(r, 1<<29),
		}
		for _, g := range matrices {
			for n := 0; n < o.count(); n += 1 + o.count()/15 {
				v, e := manin.Apply(s, n, g)
				want := o.zero()
				o.addImage(want, n, g)
				if e != api.OK || !sameInts(v, want) {
					t.Errorf("Apply(%v, %d, %v): %v, %d", s, n, g, v, e)
				}
			}
		}
		for _, n := range []int{math.MinInt, -1, o.count(), math.MaxInt} {
			v, e := manin.Apply(s, n, matrixS)
			expectError(t, "Apply", v, e, api.ErrRange)
		}
		for _, a := range []int{math.MinInt, -most - 1, most + 1, math.MaxInt} {
			for _, g := range []api.Mat2{{A: a}, {B: a}, {C: a}, {D: a}} {
				v, e := manin.Apply(s, 0, g)
				expectError(t, "Apply", v, e, api.ErrRange)
			}
		}
	}
}

func TestStar(t *testing.T) { // P40.1, P40.4
	for _, s := range spaces() {
		o := oracleOf(s)
		for n := range o.count() {
			i, p := n/len(o.pairs), o.pairs[n%len(o.pairs)]
			want := o.zero()
			o.add(want, power(-1, i), i, -p[0], p[1])
			m, sign, e := manin.Star(s, n)
			if e != api.OK || m < 0 || m >= len(want) || want[m].Cmp(big.NewInt(int64(sign))) != 0 || sign == 0 {
				t.Errorf("Star(%v, %d): %d, %d, %d", s, n, m, sign, e)
			}
			again, other, e := manin.Star(s, m)
			if e != api.OK || again != n || sign*other != 1 {
				t.Errorf("Star(%v, %d) is %d, of which it is %d", s, n, m, again)
			}
		}
		for _, n := range []int{math.MinInt, -1, o.count(), math.MaxInt} {
			m, sign, e := manin.Star(s, n)
			expectError(t, "Star", [2]int{m, sign}, e, api.ErrRange)
		}
	}
}

func TestRelations(t *testing.T) { // P40.1
	for _, s := range spaces() {
		o := oracleOf(s)
		m, e := manin.Relations(s)
		count := o.count()
		if e != api.OK || m.Rows != 2*count || m.Cols != count || len(m.A) != 2*count*count {
			t.Fatalf("Relations(%v): %d, %d, %d", s, m.Rows, m.Cols, e)
		}
		twice := api.Mat2{A: -1, B: 1, C: -1, D: 0}
		for n := range count {
			for row, l := range map[int][]api.Mat2{n: {matrixS}, count + n: {matrixR, twice}} {
				want := o.zero()
				want[n].SetInt64(1)
				for _, g := range l {
					o.addImage(want, n, g)
				}
				if !sameInts(m.A[row*count:(row+1)*count], want) {
					t.Fatalf("row %d of Relations(%v): %v", row, s, m.A[row*count:(row+1)*count])
				}
			}
		}
	}
}

func TestExamples(t *testing.T) { // P40.1
	check := func(s api.Spec, n int, g api.Mat2, want ...int64) {
		t.Helper()
		if v, e := manin.Apply(s, n, g); e != api.OK || !sameInts(v, ints(want...)) {
			t.Errorf("Apply(%v, %d, %v): %v, %d", s, n, g, v, e)
		}
	}
	check(spec(1, 4, 1), 0, matrixS, 0, 0, 1)
	check(spec(1, 4, 1), 1, matrixS, 0, -1, 0)
	check(spec(1, 4, 1), 2, matrixR, 1, 0, 0)
	check(spec(2, 2, 1), 0, matrixS, 0, 1, 0)
	if n, sign, e := manin.Number(spec(2, 2, 1), api.Manin{Exp: 0, U: 3, V: 5}); n != 2 || sign != 1 || e != api.OK {
		t.Errorf("Number of {0, 3, 5}: %d, %d, %d", n, sign, e)
	}
	if n, sign, e := manin.Number(spec(3, 3, -3), api.Manin{Exp: 1, U: 2, V: 0}); n != 5 || sign != -1 || e != api.OK {
		t.Errorf("Number of {1, 2, 0}: %d, %d, %d", n, sign, e)
	}
}

// applied returns a vector times g, term by term.
func applied(t *testing.T, s api.Spec, vector []api.Int, g api.Mat2) []*big.Int {
	t.Helper()
	sum := make([]*big.Int, len(vector))
	for i := range sum {
		sum[i] = new(big.Int)
	}
	for n, c := range vector {
		if len(c.Mag) == 0 {
			continue
		}
		v, e := manin.Apply(s, n, g)
		if e != api.OK {
			t.Fatalf("Apply(%v, %d, %v): %d", s, n, g, e)
		}
		for i, x := range v {
			sum[i].Add(sum[i], new(big.Int).Mul(toBig(c), toBig(x)))
		}
	}
	return sum
}

// times returns g h.
func times(g, h api.Mat2) api.Mat2 {
	return api.Mat2{A: g.A*h.A + g.B*h.C, B: g.A*h.B + g.B*h.D, C: g.C*h.A + g.D*h.C, D: g.C*h.B + g.D*h.D}
}

func TestAction(t *testing.T) { // P40.2
	r := rand.New(rand.NewSource(402))
	for _, s := range spaces() {
		count, _ := manin.Count(s)
		for range 12 {
			n, g, h := r.Intn(count), randomMatrix(r, 12), randomMatrix(r, 12)
			first, _ := manin.Apply(s, n, g)
			whole, _ := manin.Apply(s, n, times(g, h))
			if !sameInts(whole, applied(t, s, first, h)) {
				t.Errorf("%v: symbol %d times %v, then %v", s, n, g, h)
			}
		}
		for n := 0; n < count; n += 1 + count/20 {
			x, _ := manin.Apply(s, n, api.Mat2{A: 1, D: 1})
			xs, _ := manin.Apply(s, n, matrixS)
			xr, _ := manin.Apply(s, n, matrixR)
			xrr, _ := manin.Apply(s, n, times(matrixR, matrixR))
			if !sameInts(x, applied(t, s, xs, matrixS)) || !sameInts(x, applied(t, s, xrr, matrixR)) ||
				!sameInts(xrr, applied(t, s, xr, matrixR)) {
				t.Errorf("%v: symbol %d and S S, R R R", s, n)
			}
		}
	}
}

func TestUnits(t *testing.T) { // P40.3
	r := rand.New(rand.NewSource(403))
	for _, s := range spaces() {
		count, _ := manin.Count(s)
		for l := -50; l < 150; l++ {
			if gcd(l, s.Level) != 1 {
				continue
			}
			want := r.Intn(count)
			x, _ := manin.Symbol(s, want)
			n, sign, e := manin.Number(s, api.Manin{Exp: x.Exp, U: l * x.U, V: l * x.V})
			if e != api.OK || n != want || sign != chi(s, l) {
				t.Errorf("%v: %d times %v is %d, %d, %d", s, l, x, n, sign, e)
			}
		}
	}
}

func TestStarAndMatrices(t *testing.T) { // P40.4
	r := rand.New(rand.NewSource(404))
	for _, s := range spaces() {
		count, _ := manin.Count(s)
		for range 10 {
			n, g := r.Intn(count), randomMatrix(r, 30)
			image, _ := manin.Apply(s, n, g)
			got := make([]*big.Int, count)
			for i := range got {
				got[i] = new(big.Int)
			}
			for i, c := range image {
				m, sign, _ := manin.Star(s, i)
				got[m].Add(got[m], new(big.Int).Mul(big.NewInt(int64(sign)), toBig(c)))
			}
			m, sign, _ := manin.Star(s, n)
			want, _ := manin.Apply(s, m, api.Mat2{A: g.A, B: -g.B, C: -g.C, D: g.D})
			for i, c := range want {
				if z := new(big.Int).Mul(big.NewInt(int64(sign)), toBig(c)); z.Cmp(got[i]) != 0 {
					t.Fatalf("%v: the star of symbol %d times %v", s, n, g)
				}
			}
		}
	}
}

func TestMemory(t *testing.T) { // R3: no two integers of a result share memory
	s := spec(3, 5, -3)
	for name, f := range map[string]func() []api.Int{
		"Apply": func() []api.Int {
			v, _ := manin.Apply(s, 7, api.Mat2{A: 3, B: 5, C: 7, D: 2})
			return v
		},
		"Relations": func() []api.Int {
			m, _ := manin.Relations(s)
			return m.A
		},
	} {
		got, want := f(), f()
		for i := range got {
			mag := got[i].Mag[:cap(got[i].Mag)]
			for j := range mag {
				mag[j] = 77
			}
			got[i] = api.Int{}
			for j := i + 1; j < len(got); j++ {
				if toBig(got[j]).Cmp(toBig(want[j])) != 0 {
					t.Fatalf("%s: integers %d and %d share memory", name, i, j)
				}
			}
		}
	}
}
