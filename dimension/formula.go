package dimension

import (
	"halfplane/api"
	"halfplane/arith"
	"halfplane/dirichlet"
)

// A character is what the formula of Cohen and Oesterle asks of a character modulo the
// level.
type character struct {
	level, conductor int
	// twice returns twice the real part of the value at a number that is prime to the level
	// and from 1 to the level.
	twice func(a int) int
}

// quadratic returns the character modulo the level of a discriminant.
func quadratic(level, disc int) character {
	return character{level, max(disc, -disc), func(a int) int { return 2 * arith.Kronecker(disc, a) }}
}

// general returns any character. The formula asks for values at roots of x^2 + 1 and of
// x^2 + x + 1, where their order is at most 4.
func general(x api.Character) character {
	conductor, _ := dirichlet.Conductor(x)
	return character{x.Modulus, conductor, func(a int) int {
		v, _ := dirichlet.Value(x, a)
		switch v.Den {
		case 1:
			return 2
		case 2:
			return -2
		case 3:
			return -1
		}
		return 0 // i and -i
	}}
}

// cusp returns the dimension of the space of cusp forms of weight k.
func (x character) cusp(k int) int {
	psi, _ := arith.Psi(x.level)
	// The total is 24 times the dimension. The sums are real, because with each root also its
	// inverse is one.
	total := 2*(k-1)*psi - 12*x.lambda() + 24*x.exception(k)
	total += factor4(k) * x.sum(func(a int) int { return a*a + 1 })
	total += factor3(k) * x.sum(func(a int) int { return a*a + a + 1 })
	return total / 24
}

// eisenstein returns the dimension of the space of Eisenstein series of weight k.
func (x character) eisenstein(k int) int {
	return x.lambda() - x.exception(k)
}

// modular returns the dimension of the space of all modular forms of weight k.
func (x character) modular(k int) int {
	return x.cusp(k) + x.eisenstein(k)
}

// exception returns 1 if the weight is 2 and the character is trivial, and otherwise 0.
func (x character) exception(k int) int {
	if k == 2 && x.conductor == 1 {
		return 1
	}
	return 0
}

// sum returns the sum of twice the values at the numbers modulo the level at which the
// polynomial f is 0.
func (x character) sum(f func(a int) int) int {
	sum := 0
	for a := 1; a <= x.level; a++ {
		if f(a)%x.level == 0 {
			sum += x.twice(a)
		}
	}
	return sum
}

// lambda returns the number lambda of the formula.
func (x character) lambda() int {
	product := 1
	factors, _ := arith.Factor(x.level)
	for _, f := range factors {
		product *= localFactor(f.Prime, f.Exp, exponent(x.conductor, f.Prime))
	}
	return product
}

// localFactor returns lambda(p) for the exponents r and s of p in the level and in the
// conductor.
func localFactor(p, r, s int) int {
	switch {
	case r < 2*s:
		return 2 * power(p, r-s)
	case r%2 == 1:
		return 2 * power(p, (r-1)/2)
	}
	return power(p, r/2) + power(p, r/2-1)
}

// factor4 returns 12 times the factor of the roots of x^2 + 1.
func factor4(k int) int {
	switch k % 4 {
	case 0:
		return 3
	case 2:
		return -3
	}
	return 0
}

// factor3 returns 12 times the factor of the roots of x^2 + x + 1.
func factor3(k int) int {
	switch k % 3 {
	case 0:
		return 4
	case 2:
		return -4
	}
	return 0
}

// exponent returns the exponent of p in n.
func exponent(n, p int) int {
	s := 0
	for n%p == 0 {
		n /= p
		s++
	}
	return s
}

// power returns p to the power n.
func power(p, n int) int {
	product := 1
	for range n {
		product *= p
	}
	return product
}
