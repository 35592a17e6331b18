package farey

import (
	"slices"

	"halfplane/api"
	"halfplane/contfrac"
)

// A side of a symbol that is built: its ends, the point to which its matrix moves point 0,
// and its label, or 0 as long as it has none.
type side struct {
	left, right  api.Cusp
	point, label int
}

// A builder builds the symbol of the group of an action on which -1 does nothing.
type builder struct {
	action   api.CosetAction
	backward []int // the inverse of T
	sides    []side
	pairs    int
}

// build returns the symbol of the group of an action on which -1 does nothing, or
// ErrLarge.
func build(a api.CosetAction) (api.FareySymbol, api.Errno) {
	b := builder{action: a, backward: make([]int, len(a.T))}
	for i, x := range a.T {
		b.backward[x] = i
	}
	zero, infinity := api.Cusp{P: 0, Q: 1}, api.Cusp{P: 1, Q: 0}
	b.sides = []side{{left: infinity, right: zero, point: a.S[0]}, {left: zero, right: infinity}}
	if b.isOdd(b.sides[1]) {
		b.sides[1].label = api.Odd
	} else {
		b.split(1) // 0/1 and 1/0 have the mediant 1/1.
	}
	// All sides before side i have a label. The first side gets it here like all others: it
	// is Even exactly if S is in the group, because S is its matrix.
	for i := 0; i < len(b.sides); {
		if b.sides[i].label == 0 && !b.mark(i) {
			if e := b.split(i); e != api.OK {
				return api.FareySymbol{}, e
			}
			continue
		}
		i++
	}
	return b.symbol(), api.OK
}

// isEven reports whether G S G^-1 is in the group, for the matrix G of a side.
func (b *builder) isEven(x side) bool {
	return b.action.S[x.point] == x.point
}

// isOdd reports whether G R G^-1 is in the group. R is S^-1 T^-1.
func (b *builder) isOdd(x side) bool {
	return b.action.S[x.point] == b.action.T[x.point]
}

// mark gives side i, the first one without a label, its label, and reports whether there
// is one for it.
func (b *builder) mark(i int) bool {
	x := b.sides[i]
	switch {
	case b.isEven(x):
		b.sides[i].label = api.Even
		return true
	case b.isOdd(x):
		b.sides[i].label = api.Odd
		return true
	}
	for j := i + 1; j < len(b.sides); j++ {
		if y := b.sides[j]; y.label == 0 && b.action.S[y.point] == x.point {
			b.pairs++
			b.sides[i].label, b.sides[j].label = b.pairs, b.pairs
			return true
		}
	}
	return false
}

// split replaces side i by the two sides that meet in the mediant of its ends.
func (b *builder) split(i int) api.Errno {
	x := b.sides[i]
	middle, e := contfrac.Mediant(x.left, x.right)
	if e != api.OK {
		return e
	}
	// The new matrices are G (1 0; 1 1) = G S T^-1 S^-1 and G T.
	lower := b.action.S[b.backward[b.action.S[x.point]]]
	b.sides = slices.Replace(b.sides, i, i+1,
		side{left: x.left, right: middle, point: lower},
		side{left: middle, right: x.right, point: b.action.T[x.point]})
	return api.OK
}

// symbol returns the symbol with these sides.
func (b *builder) symbol() api.FareySymbol {
	var f api.FareySymbol
	for i, x := range b.sides {
		if i > 0 {
			f.Vertices = append(f.Vertices, x.left)
		}
		f.Labels = append(f.Labels, x.label)
	}
	return f
}
