package bernoulli

import (
	"halfplane/api"
	"halfplane/bigint"
	"halfplane/cyclotomic"
	"halfplane/dirichlet"
	"halfplane/numfield"
	"halfplane/qpoly"
	"halfplane/rational"
)

// numbers returns B_0 to B_n.
func numbers(n int) []api.Rat {
	l := []api.Rat{rational.Of(1)}
	for range n {
		l = append(l, next(l))
	}
	return l
}

// next returns the Bernoulli number behind those of the list.
func next(l []api.Rat) api.Rat {
	n := len(l)
	row := binomials(n + 1)
	sum := rational.Of(0)
	for k, b := range l {
		sum = rational.Sub(sum, rational.Mul(rational.Of(row[k]), b))
	}
	b, _ := rational.Quo(sum, rational.Of(n+1))
	return b
}

// binomials returns the binomial coefficients of n. They are sums of earlier ones, so that
// no number on the way is greater than they are; for the numbers n of this package they
// are machine integers.
func binomials(n int) []int {
	row := make([]int, n+1)
	row[0] = 1
	for m := 1; m <= n; m++ {
		for k := m; k > 0; k-- {
			row[k] += row[k-1]
		}
	}
	return row
}

// polynomial returns B_n(x).
func polynomial(n int) api.Poly {
	b := numbers(n)
	f := make(api.Poly, n+1)
	for k, c := range binomials(n) {
		f[k] = rational.Mul(rational.Of(c), b[n-k])
	}
	return f
}

// withCharacter returns the Bernoulli number B_(k, x) of a character of order n.
func withCharacter(k int, x api.Character, n int) api.Elem {
	x, _ = dirichlet.Primitive(x)
	f := x.Modulus
	p := polynomial(k)
	sum := make(api.Elem, n)
	for a := 1; a <= f; a++ {
		if v, _ := dirichlet.Value(x, a); !v.Zero {
			at := v.Num * (n / v.Den)
			part, _ := rational.Make(bigint.Of(a), bigint.Of(f))
			sum[at] = rational.Add(sum[at], qpoly.Eval(p, part))
		}
	}
	power, _ := bigint.Pow(bigint.Of(f), k-1)
	field, _ := cyclotomic.Field(n)
	b, _ := numfield.Mul(field, sum, api.Elem{rational.Whole(power)})
	return b
}
