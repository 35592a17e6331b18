package homogeneous_test

import (
	"math/big"
	"math/rand"
	"slices"
	"testing"

	"halfplane/api"
	"halfplane/bigint"
	"halfplane/homogeneous"
)

// toBig reads a normalized integer.
func toBig(t *testing.T, a api.Int) *big.Int {
	t.Helper()
	z := new(big.Int)
	for _, d := range slices.Backward(a.Mag) {
		z.Lsh(z, 32).Or(z, big.NewInt(int64(d)))
	}
	if last := len(a.Mag) - 1; last < 0 && a.Neg || last >= 0 && a.Mag[last] == 0 {
		t.Fatalf("%v is not normalized", a)
	}
	if a.Neg {
		z.Neg(z)
	}
	return z
}

// value returns the value of a polynomial of a degree, of which the last zeros may be
// missing.
func value(t *testing.T, poly []api.Int, degree int, x, y *big.Int) *big.Int {
	t.Helper()
	sum := new(big.Int)
	for n, c := range poly {
		power := func(z *big.Int, k int) *big.Int { return new(big.Int).Exp(z, big.NewInt(int64(k)), nil) }
		sum.Add(sum, new(big.Int).Mul(toBig(t, c), new(big.Int).Mul(power(x, n), power(y, degree-n))))
	}
	return sum
}

// linear returns a x + b y.
func linear(a, x, b, y int) *big.Int {
	left := new(big.Int).Mul(big.NewInt(int64(a)), big.NewInt(int64(x)))
	return left.Add(left, new(big.Int).Mul(big.NewInt(int64(b)), big.NewInt(int64(y))))
}

// points returns points at which the values of a polynomial of a degree tell what it is.
func points(degree int) [][2]int {
	l := [][2]int{{1, 0}}
	for x := range degree + 1 {
		l = append(l, [2]int{x, 1})
	}
	return l
}

// matrices returns matrices of all kinds.
func matrices(r *rand.Rand) []api.Mat2 {
	l := []api.Mat2{{}, {A: 1, D: 1}, {B: -1, C: 1}, {A: 2, B: 4, C: 1, D: 2}, {A: 7}, {D: -3}, {A: -1 << 30, B: 1 << 30, C: 1<<30 - 1, D: 1 << 30}, {A: -1 << 40, B: 1, C: 1 << 50, D: -5}}
	for range 5 {
		l = append(l, api.Mat2{A: r.Intn(41) - 20, B: r.Intn(41) - 20, C: r.Intn(41) - 20, D: r.Intn(41) - 20})
	}
	return l
}

func TestMonomial(t *testing.T) {
	r := rand.New(rand.NewSource(1))
	for _, degree := range []int{0, 1, 2, 3, 5, 10, 22} {
		for exp := range degree + 1 {
			for _, g := range matrices(r) {
				f := homogeneous.Monomial(exp, degree, g)
				if len(f) != degree+1 {
					t.Fatalf("Monomial(%d, %d, %v): %v", exp, degree, g, f)
				}
				for _, p := range points(degree) {
					x, y := linear(g.A, p[0], g.B, p[1]), linear(g.C, p[0], g.D, p[1])
					want := new(big.Int).Mul(x.Exp(x, big.NewInt(int64(exp)), nil), y.Exp(y, big.NewInt(int64(degree-exp)), nil))
					if value(t, f, degree, linear(1, p[0], 0, 0), linear(1, p[1], 0, 0)).Cmp(want) != 0 {
						t.Fatalf("Monomial(%d, %d, %v): %v", exp, degree, g, f)
					}
				}
			}
		}
	}
}

func TestSubstitute(t *testing.T) {
	r := rand.New(rand.NewSource(2))
	for _, degree := range []int{0, 1, 2, 3, 5, 10, 22} {
		for length := range degree + 2 {
			poly := make([]api.Int, length)
			for n := range poly {
				poly[n] = bigint.Of(r.Intn(2001) - 1000)
			}
			kept := slices.Clone(poly)
			for _, g := range matrices(r) {
				f := homogeneous.Substitute(poly, degree, g)
				if len(f) != degree+1 {
					t.Fatalf("Substitute(%v, %d, %v): %v", poly, degree, g, f)
				}
				for _, p := range points(degree) {
					want := value(t, poly, degree, linear(g.A, p[0], g.B, p[1]), linear(g.C, p[0], g.D, p[1]))
					if value(t, f, degree, linear(1, p[0], 0, 0), linear(1, p[1], 0, 0)).Cmp(want) != 0 {
						t.Fatalf("Substitute(%v, %d, %v): %v", poly, degree, g, f)
					}
				}
			}
			if !slices.EqualFunc(poly, kept, func(a, b api.Int) bool { return bigint.Cmp(a, b) == 0 }) {
				t.Fatal("the polynomial was changed")
			}
		}
	}
}
