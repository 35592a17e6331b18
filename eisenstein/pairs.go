package eisenstein

import (
	"slices"

	"halfplane/api"
	"halfplane/arith"
	"halfplane/dirichlet"
)

// firstCharacters returns the primitive characters modulo u of which no conjugate comes
// before them.
func firstCharacters(u int) []api.Character {
	// Beyond the limit of the moduli no character is needed: its partner could only be the
	// one modulo 1, so that u would be the absolute value of the discriminant.
	all, _ := dirichlet.All(u)
	var l []api.Character
	for _, chi := range all {
		if isPrimitive(chi) && isFirst(chi) {
			l = append(l, chi)
		}
	}
	return l
}

// isFirst reports whether no power of the character that generates the same field comes
// before it in the order of the exponents.
func isFirst(chi api.Character) bool {
	order, _ := dirichlet.Order(chi)
	_, orders, _ := dirichlet.Generators(chi.Modulus)
	power := make([]int, len(chi.Exps))
	for j := 2; j < order; j++ {
		if arith.Gcd(j, order) != 1 {
			continue
		}
		for i, x := range chi.Exps {
			power[i] = j * x % orders[i]
		}
		if slices.Compare(power, chi.Exps) < 0 {
			return false
		}
	}
	return true
}

// partner returns the primitive character psi for which chi psi is the character disc at
// all numbers that are prime to the moduli, and whether its conductor may be within the
// limits.
func partner(chi, disc api.Character) (api.Character, bool) {
	n := lcm(chi.Modulus, disc.Modulus)
	x, e := dirichlet.Extend(disc, n)
	if e != api.OK {
		// n divides the product of the conductors of chi and psi. If this divides a
		// level, which is less than 2 n, the conductors are coprime, and their product is
		// that of disc; but this is less than n.
		return api.Character{}, false
	}
	conjugate, _ := dirichlet.Conjugate(chi)
	y, _ := dirichlet.Extend(conjugate, n)
	product, _ := dirichlet.Mul(x, y)
	psi, _ := dirichlet.Primitive(product)
	return psi, true
}

// pairsOf returns the pairs of two characters in a space.
func pairsOf(chi, psi api.Character, s api.Spec) []api.EisPair {
	var l []api.EisPair
	factors, _ := arith.Divisors(s.Level / (chi.Modulus * psi.Modulus))
	for _, t := range factors {
		p := api.EisPair{Chi: clone(chi), Psi: clone(psi), T: t}
		if s.Weight > 2 || t > 1 || !isTrivial(p) {
			l = append(l, p)
		}
	}
	return l
}

// checkPair returns the first error of the characters of a pair.
func checkPair(k int, p api.EisPair) api.Errno {
	chi, e := dirichlet.Even(p.Chi)
	if e != api.OK {
		return e
	}
	psi, e := dirichlet.Even(p.Psi)
	switch {
	case e != api.OK:
		return e
	case !isPrimitive(p.Chi) || !isPrimitive(p.Psi):
		return api.ErrForm
	case (chi == psi) != (k%2 == 0):
		return api.ErrParity
	}
	return api.OK
}

// isPrimitive reports whether the modulus of a character is its conductor.
func isPrimitive(x api.Character) bool {
	conductor, _ := dirichlet.Conductor(x)
	return conductor == x.Modulus
}

// isTrivial reports whether both characters are trivial.
func isTrivial(p api.EisPair) bool {
	return p.Chi.Modulus == 1 && p.Psi.Modulus == 1
}

// rootOrder returns the order of the roots of unity of the field of a pair.
func rootOrder(p api.EisPair) int {
	m, _ := dirichlet.Order(p.Chi)
	n, _ := dirichlet.Order(p.Psi)
	return lcm(m, n)
}

// clone returns a character in memory of its own.
func clone(x api.Character) api.Character {
	return api.Character{Modulus: x.Modulus, Exps: slices.Clone(x.Exps)}
}

// lcm returns the least common multiple of positive numbers.
func lcm(a, b int) int {
	return a / arith.Gcd(a, b) * b
}
