package theta

import (
	"halfplane/api"
	"halfplane/bigint"
	"halfplane/rational"
)

// box returns the greatest absolute values of the elements of the vectors in the box of m,
// and whether it is small enough.
func box(g api.Gram, m int) ([]int, bool) {
	b := make([]int, g.Rank)
	size := 1
	inv := inverse(g)
	for i := range b {
		square := rational.Mul(rational.Of(2*m), inv[i*g.Rank+i])
		root, _, _ := bigint.Sqrt(rational.Floor(square))
		n, ok := bigint.Small(root)
		if !ok || n > api.MaxBox {
			return nil, false
		}
		b[i] = n
		size *= 2*n + 1
		if size > api.MaxBox {
			return nil, false
		}
	}
	return b, true
}

// visitBox passes all vectors whose elements have absolute values of at most those of b,
// in lexicographic order, to a function with the value of the form there. The function must
// not keep the vector.
func visitBox(g api.Gram, b []int, visit func(x []int, value int)) {
	x := make([]int, g.Rank)
	var from func(i, value int)
	from = func(i, value int) {
		if i == g.Rank {
			visit(x, value)
			return
		}
		row := g.A[i*g.Rank : (i+1)*g.Rank]
		linear := 0
		for j := range i {
			linear += row[j] * x[j]
		}
		for c := -b[i]; c <= b[i]; c++ {
			x[i] = c
			from(i+1, value+c*(row[i]/2*c+linear))
		}
	}
	from(0, 0)
}
