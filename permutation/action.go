package permutation

import "halfplane/api"

// isPermutation reports whether p is a permutation of 0 to len(p) - 1.
func isPermutation(p []int) bool {
	seen := make([]bool, len(p))
	for _, x := range p {
		if x < 0 || x >= len(p) || seen[x] {
			return false
		}
		seen[x] = true
	}
	return true
}

// isAction reports whether the permutations S and T satisfy the relations of SL2(Z): S^4
// is 1, and (S T)^3 is S^2.
func isAction(a api.CosetAction) bool {
	for i := range a.S {
		x := i
		for range 3 {
			x = a.T[a.S[x]]
		}
		minus := a.S[a.S[i]]
		if a.S[a.S[minus]] != i || x != minus {
			return false
		}
	}
	return true
}

// search returns the points that can be reached from point i, in the order of a
// breadth-first search in which S is followed before T.
func search(a api.CosetAction, i int) []int {
	points := []int{i}
	seen := make([]bool, len(a.S))
	seen[i] = true
	visit := func(x int) {
		if !seen[x] {
			seen[x] = true
			points = append(points, x)
		}
	}
	for k := 0; k < len(points); k++ {
		visit(a.S[points[k]])
		visit(a.T[points[k]])
	}
	return points
}

// move returns the point to which the value of w moves point i.
func move(a api.CosetAction, i int, w api.STWord) int {
	for k, n := range w.Exps {
		if k > 0 {
			i = a.S[i]
		}
		i = power(a.T, i, n)
	}
	if w.Neg {
		i = a.S[a.S[i]]
	}
	return i
}

// power returns the point to which the n-th power of p moves point i.
func power(p []int, i, n int) int {
	length := 1
	for x := p[i]; x != i; x = p[x] {
		length++
	}
	n %= length
	if n < 0 {
		n += length
	}
	for range n {
		i = p[i]
	}
	return i
}

// projective returns the action on the orbits of S^2.
func projective(a api.CosetAction) api.CosetAction {
	var least []int
	number := make([]int, len(a.S))
	for i := range a.S {
		if minus := a.S[a.S[i]]; minus < i {
			number[i] = number[minus]
			continue
		}
		number[i] = len(least)
		least = append(least, i)
	}
	var p api.CosetAction
	for _, i := range least {
		p.S = append(p.S, number[a.S[i]])
		p.T = append(p.T, number[a.T[i]])
	}
	return p
}

// cycles returns the lengths of the cycles of p.
func cycles(p []int) []int {
	var l []int
	seen := make([]bool, len(p))
	for i := range p {
		length := 0
		for x := i; !seen[x]; x = p[x] {
			seen[x] = true
			length++
		}
		if length > 0 {
			l = append(l, length)
		}
	}
	return l
}
