package heilbronn_test

import (
	"math/big"
	"testing"

	"halfplane/api"
)

const top = api.MaxEntry

// noIndices are numbers that are no indices of Hecke operators.
var noIndices = []int{0, -1, -2, api.MaxHecke + 1, 131, 1 << 40, -1 << 63, 1<<63 - 1}

// det returns the determinant.
func det(m api.Mat2) int {
	return m.A*m.D - m.B*m.C
}

// times returns x y.
func times(x, y api.Mat2) api.Mat2 {
	return api.Mat2{A: x.A*y.A + x.B*y.C, B: x.A*y.B + x.B*y.D, C: x.C*y.A + x.D*y.C, D: x.C*y.B + x.D*y.D}
}

// negative returns -m.
func negative(m api.Mat2) api.Mat2 {
	return api.Mat2{A: -m.A, B: -m.B, C: -m.C, D: -m.D}
}

// gcd is Euclid's algorithm.
func gcd(a, b int) int {
	for b != 0 {
		a, b = b, a%b
	}
	return max(a, -a)
}

// lowest returns p/q in lowest terms.
func lowest(p, q int) [2]int {
	g := gcd(p, q)
	if q < 0 || q == 0 && p < 0 {
		g = -g
	}
	return [2]int{p / g, q / g}
}

// classes returns the matrices (a b; 0 d) of determinant n with 0 <= b < a.
func classes(n int) []api.Mat2 {
	var l []api.Mat2
	for a := 1; a <= n; a++ {
		for b := 0; n%a == 0 && b < a; b++ {
			l = append(l, api.Mat2{A: a, B: b, D: n / a})
		}
	}
	return l
}

// inClass reports whether m is k times a matrix of SL2(Z), both of determinant n.
func inClass(k, m api.Mat2, n int) bool {
	g := times(api.Mat2{A: k.D, B: -k.B, C: -k.C, D: k.A}, m)
	return g.A%n == 0 && g.B%n == 0 && g.C%n == 0 && g.D%n == 0
}

// satisfies is Merel's condition, class by class.
func satisfies(n int, l []api.Mat2) bool {
	count := 0
	for _, k := range classes(n) {
		sum := map[[2]int]int{}
		for _, m := range l {
			if inClass(k, m, n) {
				count++
				sum[lowest(m.A, m.C)]++
				sum[lowest(m.B, m.D)]--
			}
		}
		sum[[2]int{1, 0}]--
		sum[[2]int{0, 1}]++
		for _, x := range sum {
			if x != 0 {
				return false
			}
		}
	}
	return count == len(l)
}

// floor returns the greatest integer that is at most a fraction.
func floor(x *big.Rat) int {
	// Euclid's division rounds down for positive divisors.
	return int(new(big.Int).Div(x.Num(), x.Denom()).Int64())
}

// ceil returns the least integer that is at least a fraction.
func ceil(x *big.Rat) int {
	return -floor(new(big.Rat).Neg(x))
}

// expectError checks that a list is empty beside an error.
func expectError(t *testing.T, name string, l []api.Mat2, e, want api.Errno) {
	t.Helper()
	if e != want || len(l) != 0 {
		t.Errorf("%s: %v, %d; want error %d", name, l, e, want)
	}
}
