package farey

import (
	"halfplane/api"
	"halfplane/sl2"
)

// areVertices reports whether cusps, of which there is at least one, are the vertices of
// a symbol.
func areVertices(l []api.Cusp) bool {
	if l[0].Q != 1 || l[len(l)-1].Q != 1 {
		return false
	}
	for i, right := range l[1:] {
		// This is never 1 if the left one is infinity.
		if left := l[i]; right.P*left.Q-left.P*right.Q != 1 {
			return false
		}
	}
	return true
}

// areLabels reports whether a list is that of the labels of a symbol.
func areLabels(l []int) bool {
	odd := false
	var open []bool // for each number so far, whether its second side is to come
	for _, label := range l {
		switch {
		case label == api.Even:
		case label == api.Odd:
			odd = true
		case label == len(open)+1:
			open = append(open, true)
		case label < 1 || label > len(open) || !open[label-1]:
			return false
		default:
			open[label-1] = false
		}
	}
	for _, missing := range open {
		if missing {
			return false
		}
	}
	return odd || len(l) > 2
}

// partners returns for each side the other one of its pair, or the side itself if its
// label is Even or Odd.
func partners(labels []int) []int {
	other := make([]int, len(labels))
	var first []int
	for i, label := range labels {
		other[i] = i
		if label > len(first) {
			first = append(first, i)
		} else if label > 0 {
			other[i] = first[label-1]
			other[other[i]] = i
		}
	}
	return other
}

// index returns the index of the group.
func index(f api.FareySymbol) int {
	n := 3 * (len(f.Vertices) - 1)
	for _, label := range f.Labels {
		if label == api.Odd {
			n++
		}
	}
	return n
}

// matrices returns the matrices of all sides.
func matrices(f api.FareySymbol) []api.Mat2 {
	var l []api.Mat2
	left := api.Cusp{P: -1, Q: 0}
	for _, right := range f.Vertices {
		l = append(l, matrix(left, right))
		left = right
	}
	return append(l, matrix(left, api.Cusp{P: 1, Q: 0}))
}

// matrix returns the matrix of the side from left to right.
func matrix(left, right api.Cusp) api.Mat2 {
	return api.Mat2{A: right.P, B: left.P, C: right.Q, D: left.Q}
}

// generator returns the generator of a side with the matrix g, where other is the matrix
// of its partner, or ErrLarge.
func generator(label int, g, other api.Mat2) (api.Mat2, api.Errno) {
	x := api.Mat2{B: -1, C: 1}
	if label == api.Odd {
		x = api.Mat2{B: 1, C: -1, D: 1}
	}
	// An entry a + b of G R is at most MaxEntry if a^2 + a b + b^2, an entry of the
	// generator, is.
	m, e := sl2.Mul(other, x)
	if e != api.OK {
		return api.Mat2{}, e
	}
	inverse, _ := sl2.Inverse(g)
	return sl2.Mul(m, inverse)
}
