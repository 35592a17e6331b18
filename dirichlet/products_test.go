package dirichlet_test

import (
	"math"
	"slices"
	"testing"

	"halfplane/api"
	"halfplane/dirichlet"
)

func TestMul(t *testing.T) { // P28.3
	for n := 1; n <= api.MaxModulus; n++ {
		l := all(t, n)
		for i, x := range l {
			a := angles(x)
			for j := i % 3; j < len(l); j += 3 {
				b := angles(l[j])
				z, e := dirichlet.Mul(x, l[j])
				if e != api.OK || dirichlet.Check(z) != api.OK || z.Modulus != n {
					t.Fatal(x, l[j], z, e)
				}
				for k, angle := range angles(z) {
					if angle != times(a[k], b[k]) {
						t.Fatal(x, l[j], z, k)
					}
				}
			}
			y, e := dirichlet.Conjugate(x)
			if e != api.OK || dirichlet.Check(y) != api.OK || y.Modulus != n {
				t.Fatal(x, y, e)
			}
			for k, angle := range angles(y) {
				if (angle < 0) != (a[k] < 0) || angle >= 0 && (angle+a[k])%scale != 0 {
					t.Fatal(x, y, k)
				}
			}
		}
	}
	x, y := api.Character{Modulus: 16, Exps: []int{1, 3}}, api.Character{Modulus: 16, Exps: []int{1, 2}}
	if z, e := dirichlet.Mul(x, y); e != api.OK || !same(z, api.Character{Modulus: 16, Exps: []int{0, 1}}) {
		t.Error(z, e)
	}
	if z, e := dirichlet.Conjugate(x); e != api.OK || !same(z, api.Character{Modulus: 16, Exps: []int{1, 1}}) {
		t.Error(z, e)
	}
	if !slices.Equal(x.Exps, []int{1, 3}) || !slices.Equal(y.Exps, []int{1, 2}) {
		t.Error("an argument was changed")
	}
}

func TestExtend(t *testing.T) { // P28.3
	for m := 1; m <= api.MaxModulus; m++ {
		for _, x := range all(t, m) {
			a := angles(x)
			for n := 1; n <= api.MaxModulus; n++ {
				y, e := dirichlet.Extend(x, n)
				if n%m != 0 {
					if e != api.ErrLevel || !isNone(y) {
						t.Fatal(x, n, y, e)
					}
					continue
				}
				if e != api.OK || y.Modulus != n || dirichlet.Check(y) != api.OK {
					t.Fatal(x, n, y, e)
				}
				for k, angle := range angles(y) {
					if gcd(k, n) == 1 && angle != a[k%m] {
						t.Fatal(x, y, k)
					}
				}
			}
			for _, n := range noModuli {
				if y, e := dirichlet.Extend(x, n); e != api.ErrRange || !isNone(y) {
					t.Fatal(x, n, y, e)
				}
			}
		}
	}
	if y, e := dirichlet.Extend(api.Character{Modulus: 4, Exps: []int{1}}, 8); e != api.OK || !same(y, api.Character{Modulus: 8, Exps: []int{1, 0}}) {
		t.Error(y, e)
	}
	if y, e := dirichlet.Extend(api.Character{Modulus: 1}, 60); e != api.OK || !same(y, api.Character{Modulus: 60, Exps: []int{0, 0, 0}}) {
		t.Error(y, e)
	}
}

func TestPrimitive(t *testing.T) { // P28.3
	for n := 1; n <= api.MaxModulus; n++ {
		for _, x := range all(t, n) {
			kept := clone(x)
			a, f := angles(x), conductor(x)
			y, e := dirichlet.Primitive(x)
			if e != api.OK || y.Modulus != f || dirichlet.Check(y) != api.OK || conductor(y) != f {
				t.Fatal(x, y, f, e)
			}
			b := angles(y)
			for k, angle := range a {
				if angle >= 0 && b[k%f] != angle {
					t.Fatal(x, y, k)
				}
			}
			if z, e := dirichlet.Extend(y, n); e != api.OK || !same(z, x) {
				t.Fatal(x, y, z, e)
			}
			if !same(x, kept) {
				t.Fatal("the argument was changed")
			}
		}
	}
	for _, c := range [][2]api.Character{
		{{Modulus: 15, Exps: []int{0, 3}}, {Modulus: 5, Exps: []int{3}}}, {{Modulus: 60, Exps: []int{0, 0, 0}}, {Modulus: 1}}, {{Modulus: 8, Exps: []int{1, 0}}, {Modulus: 4, Exps: []int{1}}}, {{Modulus: 2}, {Modulus: 1}}, {{Modulus: 8, Exps: []int{1, 1}}, {Modulus: 8, Exps: []int{1, 1}}},
	} {
		if y, e := dirichlet.Primitive(c[0]); e != api.OK || !same(y, c[1]) {
			t.Error(c, y, e)
		}
	}
}

// kronecker follows the definition of the Kronecker symbol (d/a) for a > 0.
func kronecker(d, a int) int {
	symbol := 1
	for p := 2; a > 1; p++ {
		for a%p == 0 {
			a /= p
			switch {
			case d%p == 0:
				symbol = 0
			case p == 2:
				if r := (d%8 + 8) % 8; r == 3 || r == 5 {
					symbol = -symbol
				}
			case !isSquare(d, p):
				symbol = -symbol
			}
		}
	}
	return symbol
}

func isSquare(d, p int) bool {
	for x := range p {
		if (x*x-d)%p == 0 {
			return true
		}
	}
	return false
}

// isFundamental follows the definition.
func isFundamental(d int) bool {
	squareFree := func(m int) bool {
		for k := 2; k*k <= max(m, -m); k++ {
			if m%(k*k) == 0 {
				return false
			}
		}
		return true
	}
	switch (d%4 + 4) % 4 {
	case 1:
		return d != 1 && squareFree(d)
	case 0:
		r := (d/4%4 + 4) % 4
		return (r == 2 || r == 3) && squareFree(d/4)
	}
	return false
}

func TestQuadratic(t *testing.T) { // P28.4
	count := 0
	for d := -api.MaxModulus; d <= api.MaxModulus; d++ {
		x, e := dirichlet.Quadratic(d)
		if d != 1 && !isFundamental(d) {
			want := api.ErrDisc
			if d == 0 {
				want = api.ErrRange
			}
			if e != want || !isNone(x) {
				t.Error(d, x, e)
			}
			continue
		}
		count++
		n := max(d, -d)
		if e != api.OK || x.Modulus != n || dirichlet.Check(x) != api.OK {
			t.Fatal(d, x, e)
		}
		for a := 1; a <= 2*n+3; a++ {
			want := api.RootOfUnity{Zero: true}
			switch kronecker(d, a) {
			case 1:
				want = api.RootOfUnity{Den: 1}
			case -1:
				want = api.RootOfUnity{Num: 1, Den: 2}
			}
			if v, e := dirichlet.Value(x, a); e != api.OK || v != want {
				t.Fatal(d, a, v, want, e)
			}
		}
		order, _ := dirichlet.Order(x)
		f, _ := dirichlet.Conductor(x)
		even, _ := dirichlet.Even(x)
		if f != n || even != (d > 0) || order != map[bool]int{true: 1, false: 2}[d == 1] {
			t.Error(d, order, f, even)
		}
	}
	if count != 40 {
		t.Error(count)
	}
	for d, want := range map[int][]int{1: nil, 8: {0, 1}, -8: {1, 1}, -4: {1}, -3: {1}, 5: {2}, -15: {1, 2}, 60: {1, 1, 2}, 24: {1, 1, 1}, -24: {0, 1, 1}} {
		if x, e := dirichlet.Quadratic(d); e != api.OK || !slices.Equal(x.Exps, want) {
			t.Error(d, x, e)
		}
	}
	for _, d := range []int{0, 61, -61, -67, 4000, math.MaxInt, math.MinInt} {
		if x, e := dirichlet.Quadratic(d); e != api.ErrRange || !isNone(x) {
			t.Error(d, x, e)
		}
	}
	for _, d := range []int{-1, 2, 3, 4, -12, 9, 16, 20, -16, 25, 45, 49, -60, 59, -58, 36} {
		if x, e := dirichlet.Quadratic(d); e != api.ErrDisc || !isNone(x) {
			t.Error(d, x, e)
		}
	}
}

// Nothing of a result is used again by a later call, nor by another part of the result.
func TestMemory(t *testing.T) { // R3
	l, m, _ := dirichlet.Generators(60)
	clear(l[:cap(l)])
	if !slices.Equal(m, []int{2, 2, 4}) {
		t.Error(m)
	}
	clear(m[:cap(m)])
	if again, orders, _ := dirichlet.Generators(60); !slices.Equal(again, []int{31, 41, 37}) || !slices.Equal(orders, []int{2, 2, 4}) {
		t.Error(again, orders)
	}
	characters := all(t, 60)
	for i, x := range characters {
		kept := make([]api.Character, len(characters))
		for j, y := range characters {
			kept[j] = clone(y)
		}
		spoiled := x.Exps[:cap(x.Exps)]
		for k := range spoiled {
			spoiled[k] = -9
		}
		for j, y := range characters {
			if j != i && !same(y, kept[j]) {
				t.Fatal(i, j, "share memory")
			}
		}
	}
	x := api.Character{Modulus: 15, Exps: []int{1, 3}}
	y, _ := dirichlet.Primitive(x)
	z, _ := dirichlet.Extend(x, 15)
	clear(y.Exps)
	clear(z.Exps)
	if !slices.Equal(x.Exps, []int{1, 3}) {
		t.Error("a result shares memory with an argument")
	}
}
