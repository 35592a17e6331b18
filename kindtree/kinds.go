package kindtree

import (
	"halfplane/api"
	"halfplane/arith"
)

// tooHigh is the level that stands for all levels above the limit.
const tooHigh = api.KindLevel + 1

// number is the kind of a number.
var number = api.FormKind{Level: 1, Disc: 1}

// IsValid reports whether a kind is valid.
func IsValid(k api.FormKind) bool {
	return k.Weight >= -api.KindWeight && k.Weight <= api.KindWeight &&
		k.Level >= 1 && k.Level <= api.KindLevel &&
		isDiscriminant(k.Disc) && k.Level%k.Disc == 0 &&
		k.Pole >= 0 && k.Pole <= api.MaxPole &&
		(k.Pole == 0 || !k.Cusp)
}

// isDiscriminant reports whether d is 1 or a fundamental discriminant.
func isDiscriminant(d int) bool {
	disc, _, code := arith.Fundamental(d)
	return code == api.OK && disc == d
}

// Join returns the kind of the sum of forms of two valid kinds, or ErrKind if they have no
// sum. Its level may be too high.
func Join(a, b api.FormKind) (api.FormKind, api.Errno) {
	if a.Weight != b.Weight || a.Disc != b.Disc {
		return api.FormKind{}, api.ErrKind
	}
	a.Level = lcm(a.Level, b.Level)
	a.Pole = max(a.Pole, b.Pole)
	a.Cusp = a.Cusp && b.Cusp
	return a, api.OK
}

// times returns the kind of the product of forms of two kinds, the levels of which are not
// too high.
func times(a, b api.FormKind) api.FormKind {
	k := api.FormKind{
		Weight: a.Weight + b.Weight,
		Level:  lcm(a.Level, b.Level),
		Disc:   composite(a.Disc, b.Disc),
		Pole:   a.Pole + b.Pole,
	}
	k.Cusp = k.Pole == 0 && (a.Cusp || b.Cusp)
	return k
}

// power returns the kind of the n-th power of a form, n > 0.
func power(k api.FormKind, n int) api.FormKind {
	k.Weight *= n
	k.Pole *= n
	if n%2 == 0 {
		k.Disc = 1
	}
	return k
}

// composite returns the discriminant of the product of the characters of two discriminants.
func composite(d, e int) int {
	disc, _, _ := arith.Fundamental(d * e)
	return disc
}

// lcm returns the least common multiple of two positive numbers, or tooHigh if it is above
// the limit of levels.
func lcm(a, b int) int {
	return min(a/arith.Gcd(a, b)*b, tooHigh)
}
