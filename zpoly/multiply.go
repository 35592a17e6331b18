package zpoly

import (
	"math/bits"

	"halfplane/api"
	"halfplane/bigint"
)

// shortest is the least number of coefficients for which factors are packed.
const shortest = 6

// digit is the number of binary digits of a digit of api.Int.
const digit = 32

// product returns f * g.
func product(f, g api.ZPoly) api.ZPoly {
	if len(f) == 0 || len(g) == 0 {
		return nil
	}
	// No coefficient of the product has as many binary digits as the blocks, so
	// that there is one left for the sign.
	size := (bitsOf(f)+bitsOf(g)+bits.Len(uint(min(len(f), len(g)))))/digit + 1
	if isDense(f, g, size) {
		return unpack(bigint.Mul(pack(f, size), pack(g, size)), size)
	}
	return productByTerms(f, g)
}

// isDense reports whether it is worth while to pack f and g into blocks of the
// size: neither has few terms, and the blocks are not mostly empty.
func isDense(f, g api.ZPoly, size int) bool {
	if len(f) < shortest || len(g) < shortest {
		return false
	}
	digits := 0
	for _, h := range []api.ZPoly{f, g} {
		for _, c := range h {
			digits += (bigint.Bits(c) + digit - 1) / digit
		}
	}
	return (len(f)+len(g))*size <= 4*digits
}

// productByTerms returns f * g; they are not 0.
func productByTerms(f, g api.ZPoly) api.ZPoly {
	h := make(api.ZPoly, len(f)+len(g)-1)
	for i, a := range f {
		addMultiple(h[i:], g, a)
	}
	return h
}

// addMultiple adds a * g to the first coefficients of h, in place.
func addMultiple(h, g api.ZPoly, a api.Int) {
	if bigint.Sign(a) == 0 {
		return
	}
	for i, c := range g {
		if bigint.Sign(c) != 0 {
			h[i] = bigint.Add(h[i], bigint.Mul(a, c))
		}
	}
}

// pack returns the value of f at 2^32 to the power size, which consists of blocks
// of so many digits, one for each coefficient, if these are small enough. The
// product of two values is that of the product of the polynomials (Kronecker).
func pack(f api.ZPoly, size int) api.Int {
	plus, minus := make([]uint32, len(f)*size), make([]uint32, len(f)*size)
	for i, c := range f {
		if c.Neg {
			copy(minus[i*size:(i+1)*size], c.Mag)
		} else {
			copy(plus[i*size:(i+1)*size], c.Mag)
		}
	}
	return bigint.Sub(api.Int{Mag: plus}, api.Int{Mag: minus})
}

// unpack returns the polynomial with the value a at 2^32 to the power size
// whose coefficients are at most half as great as this power.
func unpack(a api.Int, size int) api.ZPoly {
	base := api.Int{Mag: append(make([]uint32, size), 1)}
	var f api.ZPoly
	carry := 0
	for rest := a.Mag; len(rest) > 0; {
		n := min(size, len(rest))
		c := bigint.Add(api.Int{Mag: rest[:n]}, bigint.Of(carry))
		rest = rest[n:]
		carry = 0
		if bigint.Bits(c) >= size*digit {
			c = bigint.Sub(c, base)
			carry = 1
		}
		f = append(f, c)
	}
	if carry > 0 {
		f = append(f, bigint.Of(carry))
	}
	if a.Neg {
		f = each(f, bigint.Neg)
	}
	return trim(f)
}
