package gausssum

import (
	"halfplane/api"
	"halfplane/cyclotomic"
	"halfplane/numfield"
	"halfplane/rational"
)

// A powers is a sum of powers of zeta_n: element k counts the k-th power, and there are n
// elements.
type powers []int

// add adds the k-th power of zeta_n, for k >= 0.
func (p powers) add(k int) {
	p[k%len(p)]++
}

// element returns the sum as an element of Q(zeta_n).
func (p powers) element() api.Elem {
	sum := make(api.Elem, len(p))
	for k, count := range p {
		sum[k] = rational.Of(count)
	}
	f, _ := cyclotomic.Field(len(p))
	sum, _ = numfield.Normal(f, sum)
	return sum
}

// exponent returns the k for which the root of unity r is the k-th power of zeta_n.
func exponent(n int, r api.RootOfUnity) int {
	return r.Num * (n / r.Den)
}
