package projline

import (
	"slices"

	"halfplane/api"
	"halfplane/arith"
)

// normal returns the normal form of (c : d), and the unit of (c, d); c, d and n have no
// common divisor.
//
// The multiples of c by units are the numbers that have the same common divisor g with n.
// So g, or 0 if it is n, is the least one, and the units that map c to it are those of one
// class modulo n/g.
func normal(n, c, d int) api.ProjPoint {
	c, d = residue(c, n), residue(d, n)
	g := arith.Gcd(c, n)
	first, _ := arith.Inverse(c/g, n/g)
	v, factor := n, 0
	for t := first; t < n; t += n / g {
		if t*d%n < v && arith.Gcd(t, n) == 1 {
			v, factor = t*d%n, t
		}
	}
	unit, _ := arith.Inverse(factor, n)
	return api.ProjPoint{U: g % n, V: v, Unit: max(unit, 1)} // modulo 1 the inverse is 0
}

// list returns the list of P1(Z/n).
func list(n int) []api.ProjPoint {
	var units []int
	for t := range n {
		if arith.Gcd(t, n) == 1 {
			units = append(units, t)
		}
	}
	var l []api.ProjPoint
	for u := range n {
		if u == 0 || n%u == 0 {
			for _, v := range seconds(n, u, units) {
				l = append(l, api.ProjPoint{U: u, V: v, Unit: 1})
			}
		}
	}
	return l
}

// seconds returns the numbers V of the normal forms (u, V); u is 0 or divides n.
func seconds(n, u int, units []int) []int {
	var fixing []int
	for _, t := range units {
		if t*u%n == u {
			fixing = append(fixing, t)
		}
	}
	var l []int
	seen := make([]bool, n)
	g := arith.Gcd(u, n)
	for v := range n {
		if seen[v] || arith.Gcd(g, v) != 1 {
			continue
		}
		l = append(l, v)
		for _, t := range fixing {
			seen[t*v%n] = true
		}
	}
	return l
}

// index returns the index of a point in the list.
func index(l []api.ProjPoint, p api.ProjPoint) int {
	return slices.IndexFunc(l, func(q api.ProjPoint) bool { return p.U == q.U && p.V == q.V })
}

// residue returns the residue of a modulo m > 0.
func residue(a, m int) int {
	return (a%m + m) % m
}
