package supersingular_test

import (
	"math/big"
	"slices"
	"strings"

	"halfplane/api"
)

// primes returns the primes for which the functions have no error.
func primes() []int {
	var l []int
	for p := 5; p <= 200; p++ {
		if isPrime(p) {
			l = append(l, p)
		}
	}
	return l
}

func isPrime(n int) bool {
	for d := 2; d*d <= n; d++ {
		if n%d == 0 {
			return false
		}
	}
	return n > 1
}

func residue(n, p int) int {
	return (n%p + p) % p
}

// nonresidue looks for the least number that is no square of a residue.
func nonresidue(p int) int {
	var squares []int
	for x := range p {
		squares = append(squares, x*x%p)
	}
	r := 1
	for slices.Contains(squares, r) {
		r++
	}
	return r
}

// field computes with pairs, for comparison.
type field struct{ p, r int }

func (f field) add(a, b api.Quad) api.Quad {
	return api.Quad{X: residue(a.X+b.X, f.p), Y: residue(a.Y+b.Y, f.p)}
}

func (f field) mul(a, b api.Quad) api.Quad {
	return api.Quad{X: residue(a.X*b.X+f.r*a.Y*b.Y, f.p), Y: residue(a.X*b.Y+a.Y*b.X, f.p)}
}

func (f field) power(a api.Quad, n int) api.Quad {
	b := api.Quad{X: 1}
	for range n {
		b = f.mul(b, a)
	}
	return b
}

// inverse is the power with the exponent p^2 - 2.
func (f field) inverse(a api.Quad) api.Quad {
	b := api.Quad{X: 1}
	for n := f.p*f.p - 2; n > 0; n /= 2 {
		if n%2 == 1 {
			b = f.mul(b, a)
		}
		a = f.mul(a, a)
	}
	return b
}

// all returns all elements in ascending order.
func (f field) all() []api.Quad {
	var l []api.Quad
	for x := range f.p {
		for y := range f.p {
			l = append(l, api.Quad{X: x, Y: y})
		}
	}
	return l
}

// ofBig returns the residue of an integer.
func (f field) ofBig(n *big.Int) api.Quad {
	return api.Quad{X: int(new(big.Int).Mod(n, big.NewInt(int64(f.p))).Int64())}
}

// invariants follows the definition of the supersingular invariants.
func (f field) invariants() []api.Quad {
	m := (f.p - 1) / 2
	var h []api.Quad
	for i := range m + 1 {
		c := new(big.Int).Binomial(int64(m), int64(i))
		h = append(h, f.ofBig(c.Mul(c, c)))
	}
	found := make([]bool, f.p*f.p)
	for _, t := range f.all() {
		var sum api.Quad
		for _, c := range slices.Backward(h) {
			sum = f.add(f.mul(sum, t), c)
		}
		if sum != (api.Quad{}) {
			continue
		}
		less := f.add(t, api.Quad{X: -1})
		numerator := f.power(f.add(f.mul(t, less), api.Quad{X: 1}), 3)
		denominator := f.mul(f.mul(t, t), f.mul(less, less))
		j := f.mul(f.mul(api.Quad{X: 256}, numerator), f.inverse(denominator))
		found[j.X*f.p+j.Y] = true
	}
	var l []api.Quad
	for _, j := range f.all() {
		if found[j.X*f.p+j.Y] {
			l = append(l, j)
		}
	}
	return l
}

// monomials are the terms of the modular polynomials as the document writes them: the
// coefficient, and the exponents of all pairs that it belongs to.
var monomials = map[int]string{
	2: "1 30 03, -1 22, 1488 21 12, -162000 20 02, 40773375 11, 8748000000 10 01, -157464000000000 00",
	3: "1 40 04, -1 33, 2232 32 23, -1069956 31 13, 36864000 30 03, 2587918086 22, 8900222976000 21 12, 452984832000000 20 02, -770845966336000000 11, 1855425871872000000000 10 01",
}

// modular calls a function for every monomial of a modular polynomial.
func modular(l int, do func(c *big.Int, i, k int)) {
	for _, part := range strings.Split(monomials[l], ", ") {
		words := strings.Fields(part)
		c, _ := new(big.Int).SetString(words[0], 10)
		for _, exps := range words[1:] {
			do(c, int(exps[0]-'0'), int(exps[1]-'0'))
		}
	}
}

// phi is the value of a modular polynomial at integers.
func phi(l int, x, y *big.Int) *big.Int {
	sum := new(big.Int)
	modular(l, func(c *big.Int, i, k int) {
		a := new(big.Int).Exp(x, big.NewInt(int64(i)), nil)
		b := new(big.Int).Exp(y, big.NewInt(int64(k)), nil)
		sum.Add(sum, a.Mul(a, b.Mul(b, c)))
	})
	return sum
}

// phi is the value of a modular polynomial at elements.
func (f field) phi(l int, x, y api.Quad) api.Quad {
	var sum api.Quad
	modular(l, func(c *big.Int, i, k int) {
		sum = f.add(sum, f.mul(f.ofBig(c), f.mul(f.power(x, i), f.power(y, k))))
	})
	return sum
}

// toBig reads an integer as it is to be read.
func toBig(a api.Int) *big.Int {
	z := new(big.Int)
	for _, d := range slices.Backward(a.Mag) {
		z.Lsh(z, 32).Or(z, big.NewInt(int64(d)))
	}
	if a.Neg {
		z.Neg(z)
	}
	return z
}

// isNormal reports whether an integer is normalized.
func isNormal(a api.Int) bool {
	n := len(a.Mag)
	return n == 0 && !a.Neg || n > 0 && a.Mag[n-1] != 0
}
