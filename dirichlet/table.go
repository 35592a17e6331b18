package dirichlet

import (
	"halfplane/api"
	"halfplane/arith"
)

// A generator is one of the generators modulo n.
type generator struct{ value, order int }

// generators returns the generators modulo n.
func generators(n int) []generator {
	var l []generator
	factors, _ := arith.Factor(n)
	for _, f := range factors {
		q := 1
		for range f.Exp {
			q *= f.Prime
		}
		add := func(a, order int) {
			c, _ := arith.Crt([]api.Congruence{{R: a, M: q}, {R: 1, M: n / q}})
			l = append(l, generator{c.R, order})
		}
		switch {
		case f.Prime > 2:
			add(primitiveRoot(q))
		case q == 4:
			add(-1, 2)
		case q > 4:
			add(-1, 2)
			add(5, q/4)
		}
	}
	return l
}

// primitiveRoot returns the least primitive root of a power q of an odd prime, and its
// order.
func primitiveRoot(q int) (int, int) {
	phi, _ := arith.Phi(q)
	for a := 2; ; a++ {
		if order, e := arith.Order(a, q); e == api.OK && order == phi {
			return a, phi
		}
	}
}

// zero stands for the value 0 in a table.
const zero = -1

// A table contains the values of a character: a number k for exp(2 pi i k/m), or zero.
type table struct {
	logs []int // for each number from 0 to the modulus - 1
	m    int
}

// tableOf returns the values of a character.
func tableOf(x api.Character) table {
	n := x.Modulus
	l := generators(n)
	t := table{logs: make([]int, n), m: 1}
	for _, g := range l {
		t.m = lcm(t.m, g.order)
	}
	for a := range t.logs {
		t.logs[a] = zero
	}
	t.logs[1%n] = 0
	units := []int{1 % n} // the products of powers of the generators so far
	for i, g := range l {
		step := x.Exps[i] * (t.m / g.order)
		for _, a := range units {
			for range g.order - 1 {
				b := a * g.value % n
				t.logs[b] = (t.logs[a] + step) % t.m
				units = append(units, b)
				a = b
			}
		}
	}
	return t
}

// at returns numbers k and m: the value at a is exp(2 pi i k/m), or 0 if k is zero.
func (t table) at(a int) (int, int) {
	n := len(t.logs)
	return t.logs[(a%n+n)%n], t.m
}

// isUnit reports whether a is prime to the modulus.
func (t table) isUnit(a int) bool {
	k, _ := t.at(a)
	return k != zero
}

// conductor returns the conductor.
func (t table) conductor() int {
	f := 1
	for !t.isPeriod(f) {
		f++
	}
	return f
}

// isPeriod reports whether f divides the modulus and the value is 1 at all numbers that
// are prime to the modulus and 1 modulo f. The modulus is such a number.
func (t table) isPeriod(f int) bool {
	if len(t.logs)%f != 0 {
		return false
	}
	for a := 1 % f; a < len(t.logs); a += f {
		if t.logs[a] > 0 {
			return false
		}
	}
	return true
}

// character returns the character with the modulus n whose value at each generator a is
// exp(2 pi i k/m) for the numbers k and m that value returns.
func character(n int, value func(a int) (k, m int)) api.Character {
	x := api.Character{Modulus: n}
	for _, g := range generators(n) {
		k, m := value(g.value)
		x.Exps = append(x.Exps, k*g.order/m)
	}
	return x
}

// lcm returns the least common multiple of positive numbers.
func lcm(a, b int) int {
	return a / arith.Gcd(a, b) * b
}
