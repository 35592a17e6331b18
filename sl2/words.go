package sl2

import "halfplane/api"

// Factor returns the word of a matrix of SL2(Z).
func Factor(m api.Mat2) (api.STWord, api.Errno) {
	if e := Check(m); e != api.OK {
		return api.STWord{}, e
	}
	return word(m), api.OK
}

// Value returns the matrix for which a word stands.
func Value(w api.STWord) (api.Mat2, api.Errno) {
	if len(w.Exps) == 0 {
		return api.Mat2{}, api.ErrForm
	}
	if !areExponents(w.Exps) {
		return api.Mat2{}, api.ErrRange
	}
	m := api.Mat2{A: 1, B: w.Exps[0], D: 1}
	for _, n := range w.Exps[1:] {
		// This is m S T^n.
		m = api.Mat2{A: m.B, B: m.B*n - m.A, C: m.D, D: m.D*n - m.C}
		if !areEntries(m) {
			return api.Mat2{}, api.ErrLarge
		}
	}
	if w.Neg {
		m = api.Mat2{A: -m.A, B: -m.B, C: -m.C, D: -m.D}
	}
	return m, api.OK
}

// Abelian returns the abelian class of a matrix of SL2(Z).
func Abelian(m api.Mat2) (int, api.Errno) {
	w, e := Factor(m)
	if e != api.OK {
		return 0, e
	}
	class := 9 * (len(w.Exps) - 1)
	for _, n := range w.Exps {
		class += n
	}
	if w.Neg { // -1 is S^2
		class += 18
	}
	return (class%12 + 12) % 12, api.OK
}

// word returns the word of a matrix of SL2(Z).
func word(m api.Mat2) api.STWord {
	var w api.STWord
	for m.C != 0 {
		q := nearest(m.A, m.C)
		w.Exps = append(w.Exps, q)
		// This is S^-1 T^-q m.
		m = api.Mat2{A: m.C, B: m.D, C: q*m.C - m.A, D: q*m.D - m.B}
	}
	w.Neg = m.A < 0
	w.Exps = append(w.Exps, m.A*m.B)
	return w
}

// nearest returns the q for which r = a - q c is greater than -|c|/2 and at most |c|/2; c
// is not 0.
func nearest(a, c int) int {
	q := a / c
	r := 2 * (a - q*c)
	size := max(c, -c)
	step := c / size
	switch {
	case r > size:
		q += step
	case r <= -size:
		q -= step
	}
	return q
}

// areExponents reports whether a word may have these exponents.
func areExponents(l []int) bool {
	if len(l) > 200 {
		return false
	}
	for _, n := range l {
		if !isEntry(n) {
			return false
		}
	}
	return true
}
