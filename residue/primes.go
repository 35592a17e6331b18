package residue

import (
	"halfplane/api"
	"halfplane/bigint"
)

// Primes is a list of different primes; the zero value is the empty one.
type Primes struct {
	list []Prime
	// The inverse, modulo each prime, of the product of the primes before it.
	inverses []uint64
	product  api.Int
}

// Add appends a prime.
func (l *Primes) Add(q Prime) {
	product := l.Product()
	l.list = append(l.list, q)
	l.inverses = append(l.inverses, q.invert(q.Int(product)))
	l.product = bigint.Mul(product, bigint.Of(int(q.p)))
}

// Product returns the product of the primes.
func (l *Primes) Product() api.Int {
	if len(l.list) == 0 {
		return bigint.Of(1)
	}
	return l.product
}

// Int returns the integer with these residues that is least in absolute value (there
// is one residue for each prime).
func (l *Primes) Int(residues []uint64) api.Int {
	a := l.value(l.digits(residues))
	b := bigint.Sub(a, l.product)
	if len(l.list) == 0 || bigint.Cmp(a, bigint.Neg(b)) <= 0 {
		return a
	}
	return b
}

// digits returns the digits of the least number that is not negative and has these
// residues. The place value of a digit is the product of the primes before (Garner).
func (l *Primes) digits(residues []uint64) []uint64 {
	digits := make([]uint64, len(l.list))
	for i, q := range l.list {
		var value uint64
		for j := i - 1; j >= 0; j-- {
			value = q.reduce(value*l.list[j].p + digits[j])
		}
		digits[i] = q.reduce((residues[i] + q.p - value) * l.inverses[i])
	}
	return digits
}

// value returns the number with these digits.
func (l *Primes) value(digits []uint64) api.Int {
	mag := make([]uint32, 0, len(digits))
	for j := len(digits) - 1; j >= 0; j-- {
		carry := digits[j]
		for i, d := range mag {
			w := uint64(d)*l.list[j].p + carry
			mag[i] = uint32(w)
			carry = w >> 32
		}
		if carry != 0 {
			mag = append(mag, uint32(carry))
		}
	}
	return api.Int{Mag: mag}
}

// Fraction returns integers n and d > 0 with n = a * d modulo m, both with absolute
// values of at most the bound, if it finds them; it does if m is greater than twice the
// square of the bound and there are such integers, and then the fraction n/d is unique.
func Fraction(a, m, bound api.Int) (n, d api.Int, ok bool) {
	_, y, _ := bigint.DivMod(a, m)
	x := m
	s, t := api.Int{}, bigint.Of(1)
	// x and y are s * a and t * a modulo m.
	for bigint.Cmp(y, bound) > 0 {
		quotient, rest, _ := bigint.DivMod(x, y)
		x, y = y, rest
		s, t = t, bigint.Sub(s, bigint.Mul(quotient, t))
	}
	if bigint.Sign(t) < 0 {
		y, t = bigint.Neg(y), bigint.Neg(t)
	}
	if bigint.Cmp(t, bound) > 0 {
		return api.Int{}, api.Int{}, false
	}
	return y, t, true
}
