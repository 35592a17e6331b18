package rational

import (
	"halfplane/api"
	"halfplane/bigint"
)

// Simplest returns the fraction with the least denominator, and among those
// with the least absolute value, that is greater than i.Lo and at most i.Hi.
func Simplest(i api.Interval) (api.Rat, api.Errno) {
	lo, hi := Normal(i.Lo), Normal(i.Hi)
	if Cmp(lo, hi) >= 0 {
		return api.Rat{}, api.ErrRange
	}
	if Sign(hi) >= 0 {
		if Sign(lo) < 0 {
			return Of(0), api.OK
		}
		return simplestAbove(bound{lo, false}, bound{hi, true}), api.OK
	}
	return Neg(simplestAbove(bound{Neg(hi), true}, bound{Neg(lo), false})), api.OK
}

// bound is an end of an interval: a fraction in lowest terms with a denominator
// that is not negative (1/0 is infinity), and whether it belongs to the interval.
type bound struct {
	at     api.Rat
	within bool
}

// simplestAbove returns the simplest fraction between two bounds that are not
// negative, of which the first one is less.
func simplestAbove(lo, hi bound) api.Rat {
	// The integers of the interval are those from whole+1 on, and whole itself
	// if it is the lower bound and belongs to it.
	whole, rest, _ := bigint.DivMod(lo.at.Num, lo.at.Den)
	least := whole
	if bigint.Sign(rest) != 0 || !lo.within {
		least = bigint.Add(whole, bigint.Of(1))
	}
	c := bigint.Cmp(times(least, hi.at.Den), hi.at.Num)
	if c < 0 || c == 0 && hi.within {
		return Whole(least)
	}
	// All fractions of the interval are whole + 1/x, and that with the simplest
	// x is the simplest, because its denominator is the numerator of x.
	x := simplestAbove(reciprocal(hi, whole), reciprocal(lo, whole))
	return api.Rat{Num: bigint.Add(bigint.Mul(whole, x.Num), x.Den), Den: x.Num}
}

// reciprocal returns 1 / (b - whole), where b is at least whole.
func reciprocal(b bound, whole api.Int) bound {
	rest := bigint.Sub(b.at.Num, bigint.Mul(whole, b.at.Den))
	return bound{api.Rat{Num: b.at.Den, Den: rest}, b.within}
}
