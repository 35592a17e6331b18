package farey

import (
	"slices"

	"halfplane/api"
)

// A walk goes through the points of a polygon. What it has walked so far, a product of S
// and T after a matrix, is up to the sign the product of a word and the matrix of a point.
type walk struct {
	p     *polygon
	point int
	word  []int // reduced
}

// reduce reports whether the value of w is in the group of a symbol, and returns its
// reduced word.
func reduce(f api.FareySymbol, w api.STWord) ([]api.FareyLetter, bool) {
	x := walk{p: polygonOf(f)}
	// From T^n, for the last vertex n, to the unit matrix, which is a word times the matrix
	// of a point. The value of w is in the group if w leads back to this point; then it is
	// the word, what w adds to it, and the inverse of the word.
	x.follow(x.p.last())
	x.turn(-f.Vertices[len(f.Vertices)-1].P)
	start, begin := x.point, slices.Clone(x.word)
	for k, n := range w.Exps {
		if k > 0 {
			x.follow(x.p.s[x.point])
		}
		x.turn(n)
	}
	if x.point != start {
		return nil, false
	}
	for _, letter := range slices.Backward(begin) {
		x.add(-letter)
	}
	return x.letters(), true
}

// follow goes where a move leads.
func (x *walk) follow(m move) {
	x.point = m.to
	if m.letter != 0 {
		x.add(m.letter)
	}
}

// turn multiplies by T^n, where T is R^-1 S^-1.
func (x *walk) turn(n int) {
	for ; n > 0; n-- {
		x.follow(x.p.back[x.point])
		x.follow(x.p.s[x.point])
	}
	for ; n < 0; n++ {
		x.follow(x.p.s[x.point])
		x.follow(x.p.r[x.point])
	}
}

// add multiplies the word by a letter, and keeps it reduced.
func (x *walk) add(letter int) {
	label := x.p.labels[max(letter, -letter)-1]
	if label == api.Even {
		letter = max(letter, -letter)
	}
	last := len(x.word) - 1
	switch {
	case last < 0 || x.word[last] != letter && x.word[last] != -letter:
		x.word = append(x.word, letter)
	case label == api.Even || x.word[last] == -letter:
		x.word = x.word[:last]
	case label == api.Odd:
		// The square is the inverse.
		x.word[last] = -letter
	default:
		x.word = append(x.word, letter)
	}
}

// letters returns the word.
func (x *walk) letters() []api.FareyLetter {
	var l []api.FareyLetter
	for _, letter := range x.word {
		l = append(l, api.FareyLetter{Side: max(letter, -letter) - 1, Inverse: letter < 0})
	}
	return l
}
