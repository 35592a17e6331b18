package expr

import (
	"strings"

	"halfplane/api"
	"halfplane/bigint"
)

// tokens are the tokens of a text, of which one is looked at: the bytes from at to end - 1,
// or none at the end of the text.
type tokens struct {
	text    string
	at, end int
}

// stop is the panic by which the reading of a text ends at an error.
type stop struct {
	offset int
	code   api.Errno
}

// next goes on to the next token: a word, digits, or one byte of another kind.
func (t *tokens) next() {
	for t.end < len(t.text) && t.text[t.end] == ' ' {
		t.end++
	}
	t.at = t.end
	if t.end == len(t.text) {
		return
	}
	first := rune(t.text[t.end])
	t.end++
	for t.end < len(t.text) && continues(first, rune(t.text[t.end])) {
		t.end++
	}
}

// continues reports whether a token that begins with first goes on with a byte.
func continues(first, b rune) bool {
	return isDigit(b) && (isDigit(first) || isLetter(first)) || isLetter(b) && isLetter(first)
}

// token returns the token.
func (t *tokens) token() string {
	return t.text[t.at:t.end]
}

// isNumber reports whether the token consists of digits.
func (t *tokens) isNumber() bool {
	return t.at < t.end && isDigit(rune(t.text[t.at]))
}

// accept goes on if this is the token, and reports whether it is.
func (t *tokens) accept(token string) bool {
	if t.token() != token {
		return false
	}
	t.next()
	return true
}

// expect goes on if this is the token; no other one can follow.
func (t *tokens) expect(token string) {
	if !t.accept(token) {
		t.fail()
	}
}

// fail stops because the token cannot follow.
func (t *tokens) fail() {
	panic(stop{t.at, api.ErrSyntax})
}

// digits returns the digits without leading zeros.
func (t *tokens) digits() string {
	if !t.isNumber() {
		t.fail()
	}
	s := withoutZeros(t.token())
	t.next()
	return s
}

// natural returns the number of any size.
func (t *tokens) natural() api.Int {
	n, _ := bigint.Parse(t.digits())
	return n
}

// integer returns the integer.
func (t *tokens) integer() int {
	offset := t.at
	sign := 1
	if t.accept("-") {
		sign = -1
	}
	return sign * small(t.digits(), offset)
}

// integers returns the integers, of which there is at least one.
func (t *tokens) integers() []int {
	l := []int{t.integer()}
	for t.accept(",") {
		l = append(l, t.integer())
	}
	return l
}

// small returns the number of digits without leading zeros; it stops with the offset if the
// number is too great for the integer of a node.
func small(digits string, offset int) int {
	n := 0
	for i := range len(digits) {
		n = 10*n + int(digits[i]-'0')
		if n > maxNumber {
			panic(stop{offset, api.ErrRange})
		}
	}
	return n
}

// withoutZeros returns digits without leading zeros.
func withoutZeros(s string) string {
	s = strings.TrimLeft(s, "0")
	if s == "" {
		return "0"
	}
	return s
}
