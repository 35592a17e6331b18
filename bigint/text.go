package bigint

import (
	"slices"
	"strings"

	"halfplane/api"
)

// Numbers are converted by way of digits to base 10^9, the greatest power of
// ten below 2^32.
const (
	decimalBase   = 1000000000
	decimalDigits = 9
)

// Numbers of fewer digits than this are converted digit by digit.
const directDigits = 32

// Format returns the decimal form of a.
func Format(a api.Int) string {
	x := trim(a.Mag)
	if len(x) == 0 {
		return "0"
	}
	// A digit to base 10^9 has more than 29 binary digits.
	digits := make([]uint32, bitLength(x)/29+1)
	toDecimal(x, digits, decimalPowers(len(digits)))
	text := make([]byte, decimalDigits*len(digits))
	for i, d := range digits {
		end := len(text) - decimalDigits*i
		for j := end - 1; j >= end-decimalDigits; j-- {
			text[j] = '0' + byte(d%10)
			d /= 10
		}
	}
	s := strings.TrimLeft(string(text), "0")
	if a.Neg {
		return "-" + s
	}
	return s
}

// Parse returns the integer whose decimal form is s.
func Parse(s string) (api.Int, api.Errno) {
	text := strings.TrimPrefix(s, "-")
	if !isDecimal(text) || text == "0" && text != s {
		return api.Int{}, api.ErrSyntax
	}
	digits := make([]uint32, (len(text)+decimalDigits-1)/decimalDigits)
	for i := range digits {
		end := len(text) - decimalDigits*i
		for _, c := range []byte(text[max(end-decimalDigits, 0):end]) {
			digits[i] = 10*digits[i] + uint32(c-'0')
		}
	}
	return signed(text != s, fromDecimal(digits, decimalPowers(len(digits)))), api.OK
}

// isDecimal reports whether text is a number without leading zeros.
func isDecimal(text string) bool {
	if text == "" || text[0] == '0' && len(text) > 1 {
		return false
	}
	for _, c := range []byte(text) {
		if c < '0' || c > '9' {
			return false
		}
	}
	return true
}

// decimalPowers returns (10^9)^(2^i) for i = 0, 1 and so on, as far as numbers
// of n digits to base 10^9 are split by them.
func decimalPowers(n int) [][]uint32 {
	powers := [][]uint32{{decimalBase}}
	for length := 2; length < n; length *= 2 {
		powers = append(powers, square(powers[len(powers)-1]))
	}
	return powers
}

// splitAt returns the greatest power of two below n, as an exponent, for n > 1.
func splitAt(n int) int {
	i := 0
	for 2<<uint(i) < n {
		i++
	}
	return i
}

// toDecimal writes the digits of x to base 10^9 into digits, which contains zeros.
func toDecimal(x, digits []uint32, powers [][]uint32) {
	if len(digits) <= directDigits {
		rest := slices.Clone(x)
		for i := range digits {
			digits[i] = divideByDigit(rest, decimalBase)
		}
		return
	}
	i := splitAt(len(digits))
	high, low := divide(x, powers[i])
	toDecimal(low, digits[:1<<uint(i)], powers)
	toDecimal(high, digits[1<<uint(i):], powers)
}

// fromDecimal returns the number whose digits to base 10^9 are given.
func fromDecimal(digits []uint32, powers [][]uint32) []uint32 {
	if len(digits) <= directDigits {
		x := make([]uint32, len(digits))
		for i := len(digits) - 1; i >= 0; i-- {
			carry := uint64(digits[i])
			for j, d := range x {
				w := uint64(d)*decimalBase + carry
				x[j] = uint32(w)
				carry = w >> 32
			}
		}
		return trim(x)
	}
	i := splitAt(len(digits))
	high := fromDecimal(digits[1<<uint(i):], powers)
	low := fromDecimal(digits[:1<<uint(i)], powers)
	return sum(product(high, powers[i]), low)
}
