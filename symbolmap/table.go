package symbolmap

import (
	"halfplane/api"
	"halfplane/arith"
	"halfplane/projline"
)

// place says that a Manin symbol with some pair is sign times that with the normal form
// that has the index in the list of layer 21; sign is 0 if there is no such symbol.
type place struct{ index, sign int }

// table contains the places of all pairs modulo a level.
type table struct {
	level, points int
	places        []place
}

// tableOf returns the table of a Spec.
func tableOf(s api.Spec) table {
	l, _ := projline.List(s.Level)
	t := table{s.Level, len(l), make([]place, s.Level*s.Level)}
	for unit := 1; unit <= s.Level; unit++ {
		if arith.Gcd(unit, s.Level) != 1 {
			continue
		}
		sign := arith.Kronecker(s.Disc, unit)
		for i, p := range l {
			t.places[t.at(unit*p.U, unit*p.V)] = place{i, sign}
		}
	}
	return t
}

// at returns the index, in the table, of a pair.
func (t table) at(u, v int) int {
	return t.residue(u)*t.level + t.residue(v)
}

// residue returns the residue of n modulo the level.
func (t table) residue(n int) int {
	r := n % t.level
	if r < 0 {
		r += t.level
	}
	return r
}
