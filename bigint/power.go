package bigint

import (
	"math/bits"

	"halfplane/api"
)

// Pow returns a to the power n.
func Pow(a api.Int, n int) (api.Int, api.Errno) {
	if n < 0 {
		return api.Int{}, api.ErrRange
	}
	x := trim(a.Mag)
	negative := a.Neg && n%2 == 1
	if compare(x, []uint32{1}) <= 0 {
		// The powers of 0 and 1 are 0 and 1, except that 0^0 is 1.
		return signed(negative, power(x, min(n, 1))), api.OK
	}
	if n > api.MaxBits/bitLength(x) {
		return api.Int{}, api.ErrLarge
	}
	return signed(negative, power(x, n)), api.OK
}

// PowMod returns the remainder of a to the power n modulo m.
func PowMod(a, n, m api.Int) (api.Int, api.Errno) {
	modulus := trim(m.Mag)
	if len(modulus) == 0 {
		return api.Int{}, api.ErrZero
	}
	if Sign(n) < 0 {
		return api.Int{}, api.ErrRange
	}
	_, rest, _ := DivMod(a, m)
	base := trim(rest.Mag)
	exponent := trim(n.Mag)
	_, z := divide([]uint32{1}, modulus)
	for i := bitLength(exponent) - 1; i >= 0; i-- {
		_, z = divide(square(z), modulus)
		if exponent[i/32]>>uint(i%32)&1 == 1 {
			_, z = divide(product(z, base), modulus)
		}
	}
	return signed(false, z), api.OK
}

// Sqrt returns the integral part of the square root of a, and whether a is a square.
func Sqrt(a api.Int) (root api.Int, square bool, e api.Errno) {
	if Sign(a) < 0 {
		return api.Int{}, false, api.ErrRange
	}
	x := trim(a.Mag)
	r := squareRoot(x)
	return signed(false, r), compare(product(r, r), x) == 0, api.OK
}

// squareRoot returns the integral part of the square root of x.
//
// It has last+1 binary digits, and each step of Newton's method doubles the
// number of digits that are known: before and after each step, root differs by
// less than 1 from the square root of x / 4^(last-known).
func squareRoot(x []uint32) []uint32 {
	if len(x) == 0 {
		return nil
	}
	last := (bitLength(x) - 1) / 2
	root := []uint32{1}
	known := 0
	for shift := bits.Len(uint(last)) - 1; shift >= 0; shift-- {
		before := known
		known = last >> uint(shift)
		quotient, _ := divide(shiftRight(x, 2*last-before-known+1), root)
		root = sum(shiftLeft(root, known-before-1), quotient)
	}
	if compare(product(root, root), x) > 0 {
		root = difference(root, []uint32{1})
	}
	return root
}
