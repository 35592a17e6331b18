package permutation

import "halfplane/api"

// intersection returns the action on the orbit of the pair of both points 0, numbered by
// a breadth-first search, or false if it has more than limit pairs. It has at least as
// many as a has points; if it has no more, then the group of a is within that of b.
func intersection(a, b api.CosetAction, limit int) (api.CosetAction, bool) {
	pairs := [][2]int{{0, 0}}
	number := map[[2]int]int{{0, 0}: 0}
	visit := func(pair [2]int) int {
		i, known := number[pair]
		if !known {
			i = len(pairs)
			number[pair] = i
			pairs = append(pairs, pair)
		}
		return i
	}
	var both api.CosetAction
	for i := 0; i < len(pairs); i++ {
		x, y := pairs[i][0], pairs[i][1]
		both.S = append(both.S, visit([2]int{a.S[x], b.S[y]}))
		both.T = append(both.T, visit([2]int{a.T[x], b.T[y]}))
		if len(pairs) > limit {
			return api.CosetAction{}, false
		}
	}
	return both, true
}

// containsPrincipal reports whether the group contains Gamma(n), that is, whether the
// entries of a matrix modulo n determine the point to which it moves point 0.
func containsPrincipal(a api.CosetAction, n int) bool {
	one := [4]int{1 % n, 0, 0, 1 % n}
	matrices := [][4]int{one}
	point := map[[4]int]int{one: 0}
	agrees := func(m [4]int, i int) bool {
		known, ok := point[m]
		if !ok {
			point[m] = i
			matrices = append(matrices, m)
			return true
		}
		return known == i
	}
	for k := 0; k < len(matrices); k++ {
		m := matrices[k]
		i := point[m]
		s := [4]int{m[1], (n - m[0]) % n, m[3], (n - m[2]) % n}
		t := [4]int{m[0], (m[0] + m[1]) % n, m[2], (m[2] + m[3]) % n}
		if !agrees(s, a.S[i]) || !agrees(t, a.T[i]) {
			return false
		}
	}
	return true
}
