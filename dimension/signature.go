package dimension

import "halfplane/api"

// maxNumber is the greatest number of a signature.
const maxNumber = 10000

// checkSignature returns the first error of a signature and a weight.
func checkSignature(g api.Signature, k int) api.Errno {
	switch {
	case !isWeight(k):
		return api.ErrRange
	case !isSignature(g):
		return api.ErrForm
	case k%2 == 1 && g.Minus:
		return api.ErrParity
	}
	return api.OK
}

// isSignature reports whether the numbers of a signature are possible.
func isSignature(g api.Signature) bool {
	for _, n := range []int{g.Index, g.Genus, g.Nu2, g.Nu3, g.Cusps, g.Irregular} {
		if n < 0 || n > maxNumber {
			return false
		}
	}
	switch {
	case g.Irregular > g.Cusps:
		return false
	case g.Minus && g.Irregular != 0:
		return false
	case !g.Minus && (g.Nu2 != 0 || (g.Cusps-g.Irregular)%2 != 0):
		return false
	}
	return 12*g.Genus == 12+g.Index-3*g.Nu2-4*g.Nu3-6*g.Cusps
}

// cuspSignature returns the dimension of the space of cusp forms.
func cuspSignature(g api.Signature, k int) int {
	switch {
	case k == 2:
		return g.Genus
	case k%2 == 0:
		return (k-1)*(g.Genus-1) + k/4*g.Nu2 + k/3*g.Nu3 + (k/2-1)*g.Cusps
	}
	return (k-1)*(g.Genus-1) + k/3*g.Nu3 + (k-2)*(g.Cusps-g.Irregular)/2 + (k-1)/2*g.Irregular
}

// eisensteinSignature returns how much greater the space of all modular forms is.
func eisensteinSignature(g api.Signature, k int) int {
	switch {
	case k == 2:
		return g.Cusps - 1
	case k%2 == 0:
		return g.Cusps
	}
	return g.Cusps - g.Irregular
}
