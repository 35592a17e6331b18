package quasimodular_test

import (
	"testing"

	"halfplane/api"
	"halfplane/quasimodular"
)

// coefficients returns those of a polynomial, as a series; they are not copied.
func coefficients(p api.QuasiPoly, e api.Errno) (api.Series, api.Errno) {
	var a api.Series
	for _, x := range p {
		a.Coef = append(a.Coef, x.Coef)
	}
	return a, e
}

func TestMemory(t *testing.T) { // R3
	p := api.QuasiPoly{term(3, 5, 2, 0, 0), term(7, 2, 0, 1, 0), term(1, 1, 0, 1, 0)}
	q := api.QuasiPoly{term(1, 1, 0, 0, 1)}
	a := of(0, 1, 480, 480*129)
	save := append(append(api.QuasiPoly{}, p...), q...)
	for i := range save {
		save[i].Coef = fromRat(toRat(save[i].Coef))
	}
	saveA := copied(a)
	weighted := api.Weighted{Series: a, Weight: 4}
	for name, f := range map[string]func() (api.Series, api.Errno){
		"Normal":        func() (api.Series, api.Errno) { return coefficients(quasimodular.Normal(p)) },
		"Add":           func() (api.Series, api.Errno) { return coefficients(quasimodular.Add(p, q)) },
		"Scale":         func() (api.Series, api.Errno) { return coefficients(quasimodular.Scale(p[2].Coef, p)) },
		"Mul":           func() (api.Series, api.Errno) { return coefficients(quasimodular.Mul(p, q)) },
		"Derive":        func() (api.Series, api.Errno) { return coefficients(quasimodular.Derive(p)) },
		"Serre":         func() (api.Series, api.Errno) { return coefficients(quasimodular.Serre(p)) },
		"Bracket":       func() (api.Series, api.Errno) { return coefficients(quasimodular.Bracket(p, q, 0)) },
		"Fit":           func() (api.Series, api.Errno) { return coefficients(quasimodular.Fit(a, 8, 0)) },
		"Expansion":     func() (api.Series, api.Errno) { return quasimodular.Expansion(q, 5) },
		"SerreSeries":   func() (api.Series, api.Errno) { return quasimodular.SerreSeries(a, 0) },
		"BracketSeries": func() (api.Series, api.Errno) { return quasimodular.BracketSeries(weighted, weighted, 0) },
	} {
		got, e := f()
		want := copied(got)
		if e != api.OK {
			t.Errorf("%s: %d", name, e)
		}
		for i := range got.Coef {
			other, keep := copied(got), got.Coef[i]
			spoil(api.Series{Coef: []api.Rat{keep}})
			for j := range got.Coef {
				if j != i && !sameRats(got.Coef[j:j+1], other.Coef[j:j+1]) {
					t.Errorf("%s: coefficients %d and %d share memory", name, i, j)
				}
			}
		}
		spoil(got)
		if !samePoly(append(append(api.QuasiPoly{}, p...), q...), save) || !alike(a, saveA) {
			t.Fatalf("%s shares memory with an argument, or changes it", name)
		}
		if again, _ := f(); !alike(again, want) {
			t.Errorf("%s: %v, then %v", name, show(want), show(again))
		}
	}
}
