package dimension_test

import (
	"testing"

	"halfplane/api"
	"halfplane/dimension"
	"halfplane/dirichlet"
	"halfplane/permutation"
	"halfplane/signature"
)

// A pair is a row of a matrix modulo a level.
type pair struct{ c, d int }

// gcd is Euclid's algorithm, for comparison.
func gcd(a, b int) int {
	for b != 0 {
		a, b = b, a%b
	}
	return max(a, -a)
}

// primesOf returns the primes that divide n.
func primesOf(n int) []int {
	var l []int
	for p := 2; p <= n; p++ {
		if n%p == 0 {
			l = append(l, p)
			for n%p == 0 {
				n /= p
			}
		}
	}
	return l
}

// psi counts the points of the projective line modulo n.
func psi(n int) int {
	count, units := 0, 0
	for c := range n {
		if gcd(c, n) == 1 {
			units++
		}
		for d := range n {
			if gcd(gcd(c, d), n) == 1 {
				count++
			}
		}
	}
	return count / units
}

// isSquarefree reports whether n, which is not 0, is not divisible by the square of a prime.
func isSquarefree(n int) bool {
	for p := 2; p*p <= max(n, -n); p++ {
		if n%(p*p) == 0 {
			return false
		}
	}
	return true
}

// isFundamental reports whether d is 1 or a fundamental discriminant.
func isFundamental(d int) bool {
	residue := (d%4 + 4) % 4
	switch {
	case d == 0:
		return false
	case residue == 1:
		return isSquarefree(d)
	case residue != 0:
		return false
	}
	m := d / 4
	residue = (m%4 + 4) % 4
	return residue >= 2 && isSquarefree(m)
}

// symbol is the value of the quadratic character of d at a > 0, by the definition.
func symbol(d, a int) int {
	sign := 1
	for p := 2; a > 1; p++ {
		for a%p == 0 {
			a /= p
			sign *= symbolOfPrime(d, p)
		}
	}
	return sign
}

func symbolOfPrime(d, p int) int {
	if d%p == 0 {
		return 0
	}
	if p == 2 {
		if r := (d%8 + 8) % 8; r == 1 || r == 7 {
			return 1
		}
		return -1
	}
	for x := 1; x < p; x++ {
		if (x*x-d)%p == 0 {
			return 1
		}
	}
	return -1
}

// specs returns all spaces.
func specs() []api.Spec {
	var l []api.Spec
	for n := 1; n <= api.MaxLevel; n++ {
		index := psi(n)
		for d := -n; d <= n; d++ {
			if !isFundamental(d) || n%d != 0 {
				continue
			}
			for k := 2; k <= api.MaxWeight && index*(k-1) <= api.MaxSymbols; k++ {
				if (k%2 == 0) == (d > 0) {
					l = append(l, api.Spec{Level: n, Weight: k, Disc: d})
				}
			}
		}
	}
	return l
}

// signatureOf returns the signature of the group of the matrices for Gamma0(n) whose lower
// right entry is in a group of units modulo n.
func signatureOf(t *testing.T, n int, inGroup func(u int) bool) api.Signature {
	t.Helper()
	var group []int
	for u := range n {
		if gcd(u, n) == 1 && inGroup(u) {
			group = append(group, u)
		}
	}
	number := map[pair]int{}
	var points []pair
	find := func(p pair) int {
		p = pair{(p.c%n + n) % n, (p.d%n + n) % n}
		if i, ok := number[p]; ok {
			return i
		}
		for _, u := range group {
			number[pair{p.c * u % n, p.d * u % n}] = len(points)
		}
		points = append(points, p)
		return len(points) - 1
	}
	find(pair{0, 1})
	var a api.CosetAction
	for i := 0; i < len(points); i++ {
		p := points[i]
		a.S = append(a.S, find(pair{p.d, -p.c}))
		a.T = append(a.T, find(pair{p.c, p.c + p.d}))
	}
	if e := permutation.Check(a); e != api.OK {
		t.Fatal(n, e)
	}
	g, e := signature.Of(a)
	if e != api.OK {
		t.Fatal(n, e)
	}
	return g
}

// dims returns the dimensions of the cusp forms and of all forms of a signature.
func dims(t *testing.T, g api.Signature, k int) (cusp, all int) {
	t.Helper()
	cusp, e := dimension.CuspSignature(g, k)
	all, f := dimension.ModularSignature(g, k)
	if e != api.OK || f != api.OK {
		t.Fatal(g, k, e, f)
	}
	return cusp, all
}

// dimsOf returns the dimensions of the cusp forms and of all forms with a character.
func dimsOf(t *testing.T, k int, x api.Character) (cusp, all int) {
	t.Helper()
	cusp, e := dimension.CuspCharacter(k, x)
	all, f := dimension.ModularCharacter(k, x)
	if e != api.OK || f != api.OK {
		t.Fatal(x, k, e, f)
	}
	return cusp, all
}

// characters returns the characters with a modulus.
func characters(t *testing.T, n int) []api.Character {
	t.Helper()
	l, e := dirichlet.All(n)
	if e != api.OK {
		t.Fatal(n, e)
	}
	return l
}

// fits reports whether there are forms of weight k with the character x.
func fits(k int, x api.Character) bool {
	even, _ := dirichlet.Even(x)
	return even == (k%2 == 0)
}
