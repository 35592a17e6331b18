package eta_test

import (
	"math"
	"math/big"
	"math/cmplx"
	"math/rand"
	"testing"

	"halfplane/api"
	"halfplane/eta"
)

func TestCheck(t *testing.T) { // P35.1
	for _, e := range []api.Eta{of(1, 24), of(1, 200), of(1, -200), of(600, make([]int, 24)...), of(599, 0, -200), of(4, -4, 10, -4)} {
		if code := eta.Check(e); code != api.OK {
			t.Errorf("Check(%v): %d", e, code)
		}
	}
	good := of(1, 24)
	for want, l := range invalid() {
		for _, e := range l {
			if code := eta.Check(e); code != want {
				t.Errorf("Check(%v): %d", e, code)
			}
			for name, f := range map[string]func() (any, api.Errno){
				"Weight":      func() (any, api.Errno) { x, c := eta.Weight(e); return x, c },
				"Order":       func() (any, api.Errno) { x, c := eta.Order(e, 0); return x, c },
				"Modular":     func() (any, api.Errno) { x, c := eta.Modular(e); return x, c },
				"Disc":        func() (any, api.Errno) { x, c := eta.Disc(e); return x, c },
				"Pole":        func() (any, api.Errno) { x, c := eta.Pole(e); return x, c },
				"Holomorphic": func() (any, api.Errno) { x, c := eta.Holomorphic(e); return x, c },
				"Cuspidal":    func() (any, api.Errno) { x, c := eta.Cuspidal(e); return x, c },
				"Expansion":   func() (any, api.Errno) { x, c := eta.Expansion(e, 2000); return x, c },
				"Times":       func() (any, api.Errno) { x, c := eta.Times(e, good); return x, c },
				"Times, b":    func() (any, api.Errno) { x, c := eta.Times(good, e); return x, c },
				"Power":       func() (any, api.Errno) { x, c := eta.Power(e, 1000); return x, c },
				"Replace":     func() (any, api.Errno) { x, c := eta.Replace(e, 0); return x, c },
				"Raise":       func() (any, api.Errno) { x, c := eta.Raise(e, 0); return x, c },
			} {
				x, code := f()
				expectError(t, name, x, code, want)
			}
		}
	}
	// The errors of a come before those of b.
	x, code := eta.Times(of(1), of(0))
	expectError(t, "Times", x, code, api.ErrShape)
	x, code = eta.Times(of(0), of(1))
	expectError(t, "Times", x, code, api.ErrRange)
}

func TestWeight(t *testing.T) { // P35.1
	r := rand.New(rand.NewSource(351))
	for range 200 {
		e := random(r, 1+r.Intn(60), 200)
		k, code := eta.Weight(e)
		if half(e)%2 != 0 {
			expectError(t, "Weight", k, code, api.ErrParity)
		} else if code != api.OK || 2*k != half(e) {
			t.Errorf("Weight(%v): %d, %d", e, k, code)
		}
	}
}

// levels returns levels of all sorts.
func levels() []int {
	return []int{1, 2, 3, 4, 5, 6, 8, 9, 11, 12, 16, 18, 20, 24, 25, 27, 30, 32, 36, 48, 49, 60, 72, 97, 100, 144, 180, 210, 240, 360, 512, 576, 599, 600}
}

func TestOrders(t *testing.T) { // P35.2
	r := rand.New(rand.NewSource(352))
	for _, level := range levels() {
		for _, limit := range []int{1, 3, 200} {
			e := random(r, level, limit)
			least := big.NewRat(1, 1)
			for c := -1; c <= level+1; c++ {
				x, code := eta.Order(e, c)
				if c < 1 || level%c != 0 {
					expectError(t, "Order", x, code, api.ErrMember)
					continue
				}
				want := orderOf(e, c)
				if code != api.OK || toRat(x).Cmp(want) != 0 || !isNormal(x) {
					t.Errorf("Order(%v, %d): %v, %d; want %v", e, c, x, code, want)
				}
				if want.Cmp(least) < 0 {
					least = want
				}
			}
			if yes, code := eta.Holomorphic(e); code != api.OK || yes != (least.Sign() >= 0) {
				t.Errorf("Holomorphic(%v): %v, %d", e, yes, code)
			}
			if yes, code := eta.Cuspidal(e); code != api.OK || yes != (least.Sign() > 0) {
				t.Errorf("Cuspidal(%v): %v, %d", e, yes, code)
			}
			if m, code := eta.Pole(e); code != api.OK || m != poleOf(e) {
				t.Errorf("Pole(%v): %d, %d; want %d", e, m, code, poleOf(e))
			}
		}
	}
	for _, c := range []int{math.MinInt, math.MaxInt} {
		x, code := eta.Order(of(1, 24), c)
		expectError(t, "Order", x, code, api.ErrMember)
	}
}

// poleOf tries one number after another.
func poleOf(e api.Eta) int {
	m := 0
	for _, c := range divisors(e.Level) {
		width := int64(e.Level / gcd(c*c, e.Level))
		for new(big.Rat).Add(orderOf(e, c), big.NewRat(int64(m)*width, 1)).Sign() < 0 {
			m++
		}
	}
	return m
}

func TestHolomorphic(t *testing.T) { // P35.2
	for _, c := range []struct {
		e              api.Eta
		holds, cuspsTo bool
	}{
		{of(1, 24), true, true}, {of(1, 0), true, false}, {of(1, 1), true, true}, {of(1, -1), false, false},
		{of(4, -4, 10, -4), true, false}, {of(11, 2, 2), true, true}, {of(25, -1, 0, 1), false, false}, {of(2, 16, -8), true, false},
	} {
		holds, _ := eta.Holomorphic(c.e)
		cusp, _ := eta.Cuspidal(c.e)
		if holds != c.holds || cusp != c.cuspsTo {
			t.Errorf("%v: %v, %v", c.e, holds, cusp)
		}
	}
}

// discOf finds the discriminant of the field of the root of (-1)^k s among all numbers
// for which s times the number is a square.
func discOf(e api.Eta) int {
	s := big.NewRat(1, 1)
	for i, d := range divisors(e.Level) {
		for range max(e.Exps[i], -e.Exps[i]) {
			s.Mul(s, big.NewRat(int64(d), 1))
		}
	}
	if half(e)/2%2 != 0 {
		s.Neg(s)
	}
	for size := 1; ; size++ {
		for _, d := range []int{size, -size} {
			if !isDiscriminant(d) {
				continue
			}
			x := new(big.Rat).Mul(s, big.NewRat(int64(d), 1))
			if x.Sign() > 0 && isSquare(x.Num()) && isSquare(x.Denom()) {
				return d
			}
		}
	}
}

// isDiscriminant reports whether d is 0 or 1 modulo 4. The least one of a field is its
// discriminant.
func isDiscriminant(d int) bool {
	return (d%4+4)%4 <= 1
}

// isSquare reports whether n is a square.
func isSquare(n *big.Int) bool {
	root := new(big.Int).Sqrt(n)
	return root.Mul(root, root).Cmp(n) == 0
}

func TestDisc(t *testing.T) { // P35.3
	r := rand.New(rand.NewSource(353))
	modular := 0
	for range 4000 {
		e := random(r, 1+r.Intn(40), 24)
		if r.Intn(2) == 0 {
			// Multiples of 12 or 24 are modular often.
			for i := range e.Exps {
				e.Exps[i] = e.Exps[i] / 4 * []int{3, 4, 6, 12}[r.Intn(4)]
			}
		}
		yes, code := eta.Modular(e)
		if code != api.OK || yes != isModular(e) {
			t.Errorf("Modular(%v): %v, %d", e, yes, code)
		}
		d, code := eta.Disc(e)
		if !yes {
			expectError(t, "Disc", d, code, api.ErrKind)
			continue
		}
		modular++
		if want := discOf(e); code != api.OK || d != want {
			t.Errorf("Disc(%v): %d, %d; want %d", e, d, code, want)
		}
	}
	if modular < 200 {
		t.Errorf("only %d were modular", modular)
	}
	for _, c := range []struct {
		e    api.Eta
		want int
	}{
		{of(1, 24), 1}, {of(1, 0), 1}, {of(4, -4, 10, -4), -4}, {of(23, 1, 1), -23}, {of(3, 9, -3), -3}, {of(5, 5, -1), 5},
		{of(8, 2, 1, 1, 2), -8}, {of(11, 2, 2), 1}, {of(2, 8, 8), 1}, {of(7, 3, 3), -7}, {of(599, -23, 1), -599},
	} {
		if d, code := eta.Disc(c.e); isModular(c.e) && (code != api.OK || d != c.want) {
			t.Errorf("Disc(%v): %d, %d", c.e, d, code)
		}
	}
}

// valueOf returns the value of an eta quotient in the upper half plane.
func valueOf(e api.Eta, z complex128) complex128 {
	value := complex(1, 0)
	for i, d := range divisors(e.Level) {
		w := 2i * math.Pi * z * complex(float64(d), 0)
		x := cmplx.Exp(w / 24)
		for n := 1; n < 200; n++ {
			x *= 1 - cmplx.Exp(w*complex(float64(n), 0))
		}
		value *= cmplx.Pow(x, complex(float64(e.Exps[i]), 0))
	}
	return value
}

// symbol returns the Kronecker symbol (d/n) for an odd n > 0 by Jacobi's definition.
func symbol(d, n int) int {
	return big.Jacobi(big.NewInt(int64(d)), big.NewInt(int64(n)))
}

func TestTransformation(t *testing.T) { // P35.3: the character is that of Disc
	for _, e := range []api.Eta{of(1, 24), of(4, -4, 10, -4), of(23, 1, 1), of(3, 9, -3), of(5, 5, -1), of(8, 2, 1, 1, 2), of(11, 2, 2), of(7, 3, 3), of(6, 2, 2, 2, 2), of(20, 0, 2, 0, 0, 2, 0), of(25, -1, 0, 1)} {
		disc, code := eta.Disc(e)
		if code != api.OK {
			t.Errorf("Disc(%v): %d", e, code)
			continue
		}
		k, _ := eta.Weight(e)
		for _, d := range []int{1, 3, 5, 7, 13, 17, 19} {
			if gcd(d, e.Level) != 1 {
				continue
			}
			a, c := 1, e.Level
			for (a*d-1)%c != 0 {
				a++
			}
			b := (a*d - 1) / c
			// A point whose image is about as high as it is.
			z := complex(-float64(d)/float64(c), 1/float64(c))
			image := (complex(float64(a), 0)*z + complex(float64(b), 0)) / (complex(float64(c), 0)*z + complex(float64(d), 0))
			want := cmplx.Pow(complex(float64(c), 0)*z+complex(float64(d), 0), complex(float64(k), 0)) * valueOf(e, z) * complex(float64(symbol(disc, d)), 0)
			if got := valueOf(e, image); cmplx.Abs(got-want) > 1e-6*cmplx.Abs(want) {
				t.Errorf("%v at (%d %d; %d %d): %v, not %v", e, a, b, c, d, got, want)
			}
		}
	}
}
