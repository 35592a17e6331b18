package bigint

import (
	"math/bits"
	"slices"

	"halfplane/api"
)

// Gcd returns the greatest common divisor.
func Gcd(a, b api.Int) api.Int {
	x, y := trim(a.Mag), trim(b.Mag)
	if len(x) <= 2 && len(y) <= 2 {
		return signed(false, fromWord(gcdOfWords(toWord(x), toWord(y))))
	}
	p := euclid{x: slices.Clone(x), y: slices.Clone(y)}
	return signed(false, p.divisor())
}

// Xgcd returns the greatest common divisor g with u * a + v * b = g and the least u >= 0 (if b is not 0).
func Xgcd(a, b api.Int) (g, u, v api.Int) {
	if Sign(b) == 0 {
		return Abs(a), Of(Sign(a)), api.Int{}
	}
	p := euclid{x: slices.Clone(trim(a.Mag)), y: slices.Clone(trim(b.Mag)), extended: true, s: Of(1)}
	g = signed(false, p.divisor())
	u = p.s
	if Sign(a) < 0 {
		u = Neg(u)
	}
	period, _ := Exact(b, g)
	_, u, _ = DivMod(u, period)
	v, _ = Exact(Sub(g, Mul(u, a)), b)
	return g, u, v
}

// euclid is a state of Euclid's algorithm for two magnitudes a and b: x and y
// have the same common divisors as they, and if extended, there are integers v
// and w with x = s*a + v*b and y = t*a + w*b. The memory of x and y is its own.
type euclid struct {
	x, y     []uint32
	extended bool
	s, t     api.Int
}

// divisor runs the algorithm to its end and returns the greatest common
// divisor, whose factor of a is then s.
func (p *euclid) divisor() []uint32 {
	if compare(p.x, p.y) < 0 {
		p.x, p.y = p.y, p.x
		p.s, p.t = p.t, p.s
	}
	for len(p.y) > 0 {
		if len(p.x) <= 2 && !p.extended {
			return fromWord(gcdOfWords(toWord(p.x), toWord(p.y)))
		}
		if m, ok := lehmer(p.x, p.y); ok {
			p.apply(m)
		} else {
			p.step()
		}
	}
	return p.x
}

// step is one division of Euclid's algorithm.
func (p *euclid) step() {
	quotient, rest := divide(p.x, p.y)
	p.x, p.y = p.y, rest
	if p.extended {
		p.s, p.t = p.t, Sub(p.s, Mul(signed(false, quotient), p.t))
	}
}

// apply carries out several divisions at once.
func (p *euclid) apply(m steps) {
	for len(p.y) < len(p.x) {
		p.y = append(p.y, 0)
	}
	if m.odd {
		p.x, p.y = p.y, p.x
		p.s, p.t = p.t, p.s
	}
	combine(p.x, p.y, m)
	p.x, p.y = trim(p.x), trim(p.y)
	if p.extended {
		p.s, p.t = Sub(multiple(m.a, p.s), multiple(m.b, p.t)), Sub(multiple(m.d, p.t), multiple(m.c, p.s))
	}
}

// multiple returns n * a.
func multiple(n uint32, a api.Int) api.Int {
	return Mul(signed(false, fromWord(uint64(n))), a)
}

// steps stands for several divisions, by which x and y become a*x - b*y and
// d*y - c*x, after x and y have been exchanged if odd.
type steps struct {
	a, b, c, d uint32
	odd        bool
}

// combine replaces x by a*x - b*y and y by d*y - c*x, which are not negative
// and have no more digits. x and y have the same number of digits.
func combine(x, y []uint32, m steps) {
	var ax, by, cx, dy uint64
	var first, second uint32
	for i := range x {
		v, w := uint64(x[i]), uint64(y[i])
		ax += uint64(m.a) * v
		by += uint64(m.b) * w
		cx += uint64(m.c) * v
		dy += uint64(m.d) * w
		x[i], first = bits.Sub32(uint32(ax), uint32(by), first)
		y[i], second = bits.Sub32(uint32(dy), uint32(cx), second)
		ax >>= 32
		by >>= 32
		cx >>= 32
		dy >>= 32
	}
}

// lehmer carries out divisions of Euclid's algorithm with the first 64 bits of
// x, which is at least y, and the bits of y at the same places, as long as the
// quotients are certain to be those of x and y (Collins' condition, which also
// keeps the factors below 2^32). It reports whether this is of use.
func lehmer(x, y []uint32) (steps, bool) {
	n := len(x)
	if n <= 2 || len(y) < n-1 {
		return steps{}, false
	}
	shift := bits.LeadingZeros32(x[n-1])
	v, w := window(x, n, shift), window(y, n, shift)
	// The remainders before v, v and w are, up to their signs, differences of
	// multiples of x and y by a0 and b0, a1 and b1, a2 and b2.
	var a0, a1, a2 uint64 = 0, 1, 0
	var b0, b1, b2 uint64 = 0, 0, 1
	odd := true
	for w >= b2 && v-w >= b1+b2 {
		q := v / w
		v, w = w, v%w
		a0, a1, a2 = a1, a2, a1+q*a2
		b0, b1, b2 = b1, b2, b1+q*b2
		odd = !odd
	}
	if b0 == 0 {
		return steps{}, false
	}
	if odd {
		return steps{uint32(b0), uint32(a0), uint32(b1), uint32(a1), true}, true
	}
	return steps{uint32(a0), uint32(b0), uint32(a1), uint32(b1), false}, true
}

// window returns 64 bits of x, from bit 32*n-shift downwards.
func window(x []uint32, n, shift int) uint64 {
	var d [3]uint64
	for i := range d {
		if n-1-i < len(x) {
			d[i] = uint64(x[n-1-i])
		}
	}
	return (d[0]<<32|d[1])<<uint(shift) | d[2]>>uint(32-shift)
}

// gcdOfWords returns the greatest common divisor of two words.
func gcdOfWords(x, y uint64) uint64 {
	for y != 0 {
		x, y = y, x%y
	}
	return x
}
