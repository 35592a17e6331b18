package series_test

import (
	"math/big"
	"math/rand"
	"reflect"
	"testing"

	"halfplane/api"
	"halfplane/series"
)

// agree checks that two series do not differ where both are known.
func agree(t *testing.T, name string, a, b api.Series) {
	t.Helper()
	if n, differ, e := series.Differ(a, b); e != api.OK || differ {
		t.Errorf("%s: %v and %v differ at %d (%d)", name, show(a), show(b), n, e)
	}
}

// must returns a result that has no error.
func must(t *testing.T) func(a api.Series, e api.Errno) api.Series {
	return func(a api.Series, e api.Errno) api.Series {
		t.Helper()
		if e != api.OK {
			t.Fatalf("error %d", e)
		}
		return a
	}
}

func TestRing(t *testing.T) { // P33.8
	ok := must(t)
	r := rand.New(rand.NewSource(361))
	for range 60 {
		a, b, c := random(r, 12), random(r, 12), random(r, 12)
		agree(t, "sum", ok(series.Add(a, b)), ok(series.Add(b, a)))
		agree(t, "product", ok(series.Mul(a, b)), ok(series.Mul(b, a)))
		agree(t, "sums", ok(series.Add(a, ok(series.Add(b, c)))), ok(series.Add(ok(series.Add(a, b)), c)))
		agree(t, "products", ok(series.Mul(a, ok(series.Mul(b, c)))), ok(series.Mul(ok(series.Mul(a, b)), c)))
		left := ok(series.Mul(a, ok(series.Add(b, c))))
		agree(t, "distributive law", left, ok(series.Add(ok(series.Mul(a, b)), ok(series.Mul(a, c)))))
		agree(t, "difference", a, ok(series.Add(b, ok(series.Sub(a, b)))))
		product := ok(series.Theta(ok(series.Mul(a, b))))
		agree(t, "Theta", product, ok(series.Add(ok(series.Mul(a, ok(series.Theta(b)))), ok(series.Mul(ok(series.Theta(a)), b)))))
	}
}

func TestPowers(t *testing.T) { // P33.8
	ok := must(t)
	r := rand.New(rand.NewSource(362))
	one := of(0, append([]int64{1}, make([]int64, 99)...)...)
	for range 40 {
		a := random(r, 12)
		a.Coef = append([]api.Rat{fraction(int64(r.Intn(9)+1), 3)}, a.Coef...)
		a.From %= 6
		agree(t, "inverse", ok(series.Mul(a, ok(series.Inverse(a)))), one)
		for _, l := range [][2]int{{2, 3}, {-2, 5}, {7, -7}, {-3, -4}, {10, 0}} {
			whole := ok(series.Power(a, l[0]+l[1]))
			agree(t, "powers", whole, ok(series.Mul(ok(series.Power(a, l[0])), ok(series.Power(a, l[1])))))
		}
	}
}

func TestOperators(t *testing.T) { // P33.8
	ok := must(t)
	r := rand.New(rand.NewSource(363))
	for range 40 {
		a := random(r, 30)
		for _, d := range []int{1, 2, 3} {
			got := ok(series.Contract(ok(series.Expand(a, d)), d))
			if !alike(got, normal(t, a)) {
				t.Errorf("Contract(Expand(%v, %d)): %v", show(a), d, show(got))
			}
			agree(t, "Expand(Contract)", ok(series.Expand(ok(series.Contract(a, d)), d)), ok(series.Sieve(a, d, 0)))
			sum := ok(series.Scale(api.Rat{}, a))
			for i := range d {
				sum = ok(series.Add(sum, ok(series.Sieve(a, d, i))))
			}
			if !alike(sum, normal(t, a)) {
				t.Errorf("sum of the sieves of %v: %v", show(a), show(sum))
			}
		}
	}
}

func TestLogarithmicDerivative(t *testing.T) { // P33.8
	ok := must(t)
	r := rand.New(rand.NewSource(364))
	for range 40 {
		a := integral(r, r.Intn(7)-3, 20)
		h, c, e := series.Exponents(a)
		if e != api.OK {
			t.Fatalf("Exponents(%v): %d", show(a), e)
		}
		want := from(0, len(c)+1, func(n int) *big.Rat {
			s := new(big.Rat)
			for d := 1; d <= n; d++ {
				if n%d == 0 {
					s.Sub(s, new(big.Rat).Mul(big.NewRat(int64(d), 1), toRat(c[d-1])))
				}
			}
			return s
		})
		want.coef[0] = big.NewRat(int64(h), 1)
		got := ok(series.Quo(ok(series.Theta(a)), a))
		expect(t, "Theta(a)/a", got, api.OK, want)
	}
}

func TestCutting(t *testing.T) { // P33.8: operations on series that have been cut
	ok := must(t)
	r := rand.New(rand.NewSource(365))
	for range 60 {
		a, b := integral(r, r.Intn(7)-3, 20), random(r, 20)
		p := a.From + 1 + r.Intn(len(a.Coef))
		short := ok(series.Cut(a, p))
		for name, f := range map[string]func(x api.Series) (api.Series, api.Errno){
			"Add":      func(x api.Series) (api.Series, api.Errno) { return series.Add(x, b) },
			"Sub":      func(x api.Series) (api.Series, api.Errno) { return series.Sub(b, x) },
			"Scale":    func(x api.Series) (api.Series, api.Errno) { return series.Scale(fraction(2, 3), x) },
			"Shift":    func(x api.Series) (api.Series, api.Errno) { return series.Shift(x, 5) },
			"Mul":      func(x api.Series) (api.Series, api.Errno) { return series.Mul(x, b) },
			"Inverse":  series.Inverse,
			"Power":    func(x api.Series) (api.Series, api.Errno) { return series.Power(x, 6) },
			"Theta":    series.Theta,
			"Expand":   func(x api.Series) (api.Series, api.Errno) { return series.Expand(x, 3) },
			"Contract": func(x api.Series) (api.Series, api.Errno) { return series.Contract(x, 3) },
			"Sieve":    func(x api.Series) (api.Series, api.Errno) { return series.Sieve(x, 3, 1) },
			"Twist":    func(x api.Series) (api.Series, api.Errno) { return series.Twist(x, 5) },
		} {
			got := ok(f(short))
			prec, _ := series.Prec(got)
			if want := ok(series.Cut(ok(f(a)), prec)); !alike(got, want) {
				t.Errorf("%s of a series that was cut: %v, not %v", name, show(got), show(want))
			}
		}
		_, c, _ := series.Exponents(a)
		_, d, _ := series.Exponents(short)
		if !sameRats(d, c[:len(d)]) || len(d) != p-a.From-1 {
			t.Errorf("Exponents of a series that was cut: %v, not %v", d, c)
		}
	}
}

// copied returns a series in memory of its own.
func copied(a api.Series) api.Series {
	b := api.Series{From: a.From}
	for _, c := range a.Coef {
		c.Num.Mag = append([]uint32{}, c.Num.Mag...)
		c.Den.Mag = append([]uint32{}, c.Den.Mag...)
		b.Coef = append(b.Coef, c)
	}
	return b
}

// spoil changes all memory of a series.
func spoil(a api.Series) {
	for i := range a.Coef {
		for _, mag := range [][]uint32{a.Coef[i].Num.Mag, a.Coef[i].Den.Mag} {
			mag = mag[:cap(mag)]
			for j := range mag {
				mag[j] = 77
			}
		}
		a.Coef[i] = api.Rat{}
	}
}

func TestMemory(t *testing.T) { // R3
	a, b := of(-1, 1, 2, 3, 4, 5), of(0, 7, 8, 9)
	b.Coef[1] = fraction(2, 3)
	saveA, saveB := copied(a), copied(b)
	for name, f := range map[string]func() (api.Series, api.Errno){
		"Normal":   func() (api.Series, api.Errno) { return series.Normal(a) },
		"Monomial": func() (api.Series, api.Errno) { return series.Monomial(a.Coef[0], 1, 5) },
		"Cut":      func() (api.Series, api.Errno) { return series.Cut(a, 2) },
		"Add":      func() (api.Series, api.Errno) { return series.Add(a, b) },
		"Sub":      func() (api.Series, api.Errno) { return series.Sub(a, b) },
		"Scale":    func() (api.Series, api.Errno) { return series.Scale(a.Coef[0], a) },
		"Shift":    func() (api.Series, api.Errno) { return series.Shift(a, 3) },
		"Mul":      func() (api.Series, api.Errno) { return series.Mul(a, b) },
		"Inverse":  func() (api.Series, api.Errno) { return series.Inverse(a) },
		"Power":    func() (api.Series, api.Errno) { return series.Power(a, 1) },
		"Theta":    func() (api.Series, api.Errno) { return series.Theta(a) },
		"Expand":   func() (api.Series, api.Errno) { return series.Expand(a, 2) },
		"Contract": func() (api.Series, api.Errno) { return series.Contract(a, 1) },
		"Sieve":    func() (api.Series, api.Errno) { return series.Sieve(a, 1, 0) },
		"Twist":    func() (api.Series, api.Errno) { return series.Twist(a, 1) },
		"Product":  func() (api.Series, api.Errno) { return series.Product(0, a.Coef) },
		"Exponents": func() (api.Series, api.Errno) {
			_, c, e := series.Exponents(a)
			return api.Series{Coef: c}, e
		},
		"At": func() (api.Series, api.Errno) {
			c, e := series.At(a, 0)
			return api.Series{Coef: []api.Rat{c}}, e
		},
		"Denominator": func() (api.Series, api.Errno) {
			d, e := series.Denominator(b)
			return api.Series{Coef: []api.Rat{{Num: d}}}, e
		},
	} {
		got, e := f()
		want := copied(got)
		if e != api.OK {
			t.Errorf("%s: %d", name, e)
		}
		for i := range got.Coef {
			other, keep := copied(got), got.Coef[i]
			spoil(api.Series{Coef: []api.Rat{keep}})
			for j := range got.Coef {
				if j != i && !sameRats(got.Coef[j:j+1], other.Coef[j:j+1]) {
					t.Errorf("%s: coefficients %d and %d share memory", name, i, j)
				}
			}
		}
		spoil(got)
		if !reflect.DeepEqual(a, saveA) && !alike(a, saveA) || !alike(b, saveB) {
			t.Fatalf("%s shares memory with an argument, or changes it", name)
		}
		if again, _ := f(); !alike(again, want) {
			t.Errorf("%s: %v, then %v", name, show(want), show(again))
		}
	}
}
