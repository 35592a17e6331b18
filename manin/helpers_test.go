package manin_test

import (
	"math/big"
	"math/rand"
	"reflect"
	"slices"
	"testing"

	"halfplane/api"
	"halfplane/dimension"
)

// spec names a space.
func spec(level, weight, disc int) api.Spec {
	return api.Spec{Level: level, Weight: weight, Disc: disc}
}

// gcd is Euclid's algorithm.
func gcd(a, b int) int {
	for b != 0 {
		a, b = b, a%b
	}
	return max(a, -a)
}

// remainder returns the residue of n modulo m.
func remainder(n, m int) int {
	return (n%m + m) % m
}

// chi returns the character of a space: the Kronecker symbol of a discriminant, for
// residues that are prime to the level.
func chi(s api.Spec, n int) int {
	value := 1
	for n = remainder(n, s.Level); n > 1; {
		p := 2
		for n%p != 0 {
			p++
		}
		n /= p
		value *= primeSymbol(s.Disc, p)
	}
	return value
}

// primeSymbol returns the symbol (d/p) of a prime p that does not divide d.
func primeSymbol(d, p int) int {
	if p == 2 {
		if r := remainder(d, 8); r == 1 || r == 7 {
			return 1
		}
		return -1
	}
	for x := range p {
		if (x*x-d)%p == 0 {
			return 1
		}
	}
	return -1
}

// An oracle knows the symbols of a space by a search of all pairs.
type oracle struct {
	api.Spec
	pairs [][2]int
	// place contains the index of the normal form of a pair, and the character of the
	// number by which that one is multiplied.
	place map[[2]int][2]int
}

// oracleOf returns the oracle of a valid space.
func oracleOf(s api.Spec) oracle {
	o := oracle{Spec: s, place: map[[2]int][2]int{}}
	for u := range s.Level {
		for v := range s.Level {
			if _, known := o.place[[2]int{u, v}]; known || gcd(gcd(u, v), s.Level) != 1 {
				continue
			}
			// The pairs are visited in order, so that this one is the least of its class.
			for l := 1; l <= s.Level; l++ {
				if gcd(l, s.Level) == 1 {
					o.place[[2]int{l * u % s.Level, l * v % s.Level}] = [2]int{len(o.pairs), chi(s, l)}
				}
			}
			o.pairs = append(o.pairs, [2]int{u, v})
		}
	}
	return o
}

// count returns the number of symbols.
func (o oracle) count() int {
	return (o.Weight - 1) * len(o.pairs)
}

// add adds c [X^i Y^(w-i), (u, v)] to a vector, or nothing if there is no such symbol.
func (o oracle) add(vector []*big.Int, c *big.Int, i, u, v int) {
	p, ok := o.place[[2]int{remainder(u, o.Level), remainder(v, o.Level)}]
	if ok {
		n := i*len(o.pairs) + p[0]
		vector[n].Add(vector[n], new(big.Int).Mul(c, big.NewInt(int64(p[1]))))
	}
}

// zero returns the vector 0.
func (o oracle) zero() []*big.Int {
	vector := make([]*big.Int, o.count())
	for i := range vector {
		vector[i] = new(big.Int)
	}
	return vector
}

// power returns a^n.
func power(a, n int) *big.Int {
	return new(big.Int).Exp(big.NewInt(int64(a)), big.NewInt(int64(n)), nil)
}

// addImage adds the symbol number n times g to a vector, by the binomial theorem.
func (o oracle) addImage(vector []*big.Int, n int, g api.Mat2) {
	i, p := n/len(o.pairs), o.pairs[n%len(o.pairs)]
	rest := o.Weight - 2 - i
	for k := range i + 1 {
		for l := range rest + 1 {
			c := new(big.Int).Mul(new(big.Int).Binomial(int64(i), int64(k)), new(big.Int).Binomial(int64(rest), int64(l)))
			c.Mul(c, power(g.A, k)).Mul(c, power(g.B, i-k)).Mul(c, power(g.C, l)).Mul(c, power(g.D, rest-l))
			o.add(vector, c, k+l, p[0]*g.A+p[1]*g.C, p[0]*g.B+p[1]*g.D)
		}
	}
}

// toBig reads an integer as its digits denote it.
func toBig(a api.Int) *big.Int {
	z := new(big.Int)
	for _, d := range slices.Backward(a.Mag) {
		z.Lsh(z, 32).Or(z, big.NewInt(int64(d)))
	}
	if a.Neg {
		z.Neg(z)
	}
	return z
}

// sameInts reports whether integers of a result are normalized and have these values.
func sameInts(got []api.Int, want []*big.Int) bool {
	return slices.EqualFunc(got, want, func(a api.Int, z *big.Int) bool {
		last := len(a.Mag) - 1
		return toBig(a).Cmp(z) == 0 && (last < 0 && !a.Neg || last >= 0 && a.Mag[last] != 0)
	})
}

// ints returns integers of a list.
func ints(l ...int64) []*big.Int {
	var values []*big.Int
	for _, n := range l {
		values = append(values, big.NewInt(n))
	}
	return values
}

// expectError checks that a result is an error with a zero value beside it.
func expectError(t *testing.T, name string, got any, e, want api.Errno) {
	t.Helper()
	if e != want || !reflect.ValueOf(got).IsZero() {
		t.Errorf("%s: %v, %d; want error %d", name, got, e, want)
	}
}

// spaces returns valid spaces of all kinds.
func spaces() []api.Spec {
	return []api.Spec{
		spec(1, 2, 1), spec(1, 4, 1), spec(1, 24, 1), spec(2, 2, 1), spec(3, 3, -3), spec(4, 5, -4), spec(5, 6, 5), spec(6, 4, 1),
		spec(7, 3, -7), spec(8, 4, 8), spec(8, 3, -8), spec(9, 4, 1), spec(12, 3, -3), spec(12, 2, 12), spec(12, 5, -4), spec(13, 2, 13),
		spec(16, 2, 8), spec(20, 3, -20), spec(24, 2, 24), spec(25, 2, 5), spec(30, 2, 1), spec(36, 2, 1), spec(120, 2, 1), spec(120, 2, 60),
	}
}

// wrong returns a space for each error of dimension.Check.
func wrong() []api.Spec {
	return []api.Spec{
		spec(0, 2, 1), spec(121, 2, 1), spec(1, 1, 1), spec(1, 26, 1), spec(11, 2, 121), spec(5, 2, 2), spec(5, 2, 0), spec(5, 3, -3),
		spec(5, 3, 5), spec(3, 2, -3), spec(119, 24, 1), spec(1, 3, 1),
	}
}

// randomMatrix returns a matrix with entries up to a limit.
func randomMatrix(r *rand.Rand, limit int) api.Mat2 {
	entry := func() int { return r.Intn(2*limit+1) - limit }
	return api.Mat2{A: entry(), B: entry(), C: entry(), D: entry()}
}

// checked returns a space that dimension.Check accepts.
func checked(t *testing.T, s api.Spec) api.Spec {
	t.Helper()
	if e := dimension.Check(s); e != api.OK {
		t.Fatalf("%v: %d", s, e)
	}
	return s
}
