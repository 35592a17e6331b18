package quadform

import (
	"halfplane/api"
	"halfplane/arith"
	"halfplane/rational"
)

// disc returns the discriminant.
func disc(f api.QuadForm) int {
	return f.B*f.B - 4*f.A*f.C
}

// value returns f(x, y).
func value(f api.QuadForm, x, y int) int {
	return f.A*x*x + f.B*x*y + f.C*y*y
}

// transform returns the form f m.
func transform(f api.QuadForm, m api.Mat2) api.QuadForm {
	return api.QuadForm{
		A: value(f, m.A, m.C),
		B: 2*f.A*m.A*m.B + f.B*(m.A*m.D+m.B*m.C) + 2*f.C*m.C*m.D,
		C: value(f, m.B, m.D),
	}
}

// reduce returns the reduced form that is equivalent to f, and a matrix that maps f to it.
func reduce(f api.QuadForm) (api.QuadForm, api.Mat2) {
	m := api.Mat2{A: 1, D: 1}
	for {
		// From -A + 1 to A.
		b := residue(f.B, 2*f.A)
		if b > f.A {
			b -= 2 * f.A
		}
		k := (b - f.B) / (2 * f.A)
		f = transform(f, api.Mat2{A: 1, B: k, D: 1})
		m = api.Mat2{A: m.A, B: m.B + k*m.A, C: m.C, D: m.D + k*m.C}
		if f.A < f.C || f.A == f.C && f.B >= 0 {
			return f, m
		}
		f = api.QuadForm{A: f.C, B: -f.B, C: f.A}
		m = api.Mat2{A: m.B, B: -m.A, C: m.D, D: -m.C}
	}
}

// residue returns the residue of a modulo m > 0.
func residue(a, m int) int {
	return (a%m + m) % m
}

// automorphs returns the number of automorphs.
func automorphs(f api.QuadForm) int {
	c := content(f)
	switch disc(f) / (c * c) {
	case -3:
		return 6
	case -4:
		return 4
	}
	return 2
}

// identity returns the identity of a discriminant.
func identity(d int) api.QuadForm {
	b := residue(d, 2)
	return api.QuadForm{A: 1, B: b, C: (b - d) / 4}
}

// classes returns the classes of a discriminant.
func classes(d int) []api.QuadForm {
	var l []api.QuadForm
	for a := 1; 3*a*a <= -d; a++ {
		for b := 1 - a; b <= a; b++ {
			if (b*b-d)%(4*a) != 0 {
				continue
			}
			f := api.QuadForm{A: a, B: b, C: (b*b - d) / (4 * a)}
			if (a < f.C || a == f.C && b >= 0) && content(f) == 1 {
				l = append(l, f)
			}
		}
	}
	return l
}

// weighted returns the weighted class number of a discriminant.
func weighted(d int) api.Rat {
	half := automorphs(identity(d)) / 2
	number, _ := rational.Quo(rational.Of(len(classes(d))), rational.Of(half))
	return number
}

// represent returns the number of pairs (x, y) with f(x, y) = n.
func represent(f api.QuadForm, n int) int {
	f, _ = reduce(f)
	// For a reduced form f(x, y) is at least 3/4 of A x^2 and of C y^2, because the
	// discriminant is at most -3 A C.
	width, height := 0, 0
	for 3*f.A*(width+1)*(width+1) <= 4*n {
		width++
	}
	for 3*f.C*(height+1)*(height+1) <= 4*n {
		height++
	}
	count := 0
	for x := -width; x <= width; x++ {
		for y := -height; y <= height; y++ {
			if value(f, x, y) == n {
				count++
			}
		}
	}
	return count
}

// coprimeTo returns a form that is equivalent to f, which is primitive, and whose first
// coefficient is coprime to a.
func coprimeTo(a int, f api.QuadForm) api.QuadForm {
	for size := 1; ; size++ {
		for y := range size + 1 {
			x := size - y
			if g, u, v, _ := arith.Xgcd(x, y); g == 1 && arith.Gcd(value(f, x, y), a) == 1 {
				return transform(f, api.Mat2{A: x, B: -v, C: y, D: u})
			}
		}
	}
}
