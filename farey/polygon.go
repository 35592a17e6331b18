package farey

import "halfplane/api"

// none is the point that a side does not have.
const none = -1

// A move leads from a point p to the point q: the matrix of p, times S or R, is the
// generator of the letter times the matrix of q, up to the sign. Letters are numbers here:
// i + 1 for the generator of side i, -i - 1 for its inverse, and 0 for the unit matrix.
type move struct{ to, letter int }

// A polygon is the fundamental polygon of a symbol. Its points are the cosets of the
// group. Each one stands for a matrix m: for the edge from m(0) to m(infinity), and for the
// triangle of this edge and m(1). m S has the same edge, and the triangle on the other side
// of it; m R and m R^2 have the other edges of the triangle. There are three points for
// each triangle of the polygon, and one for each Odd side: it is the matrix G of the side,
// and the generator turns its triangle, which is outside of the polygon, around.
type polygon struct {
	labels []int
	s      []move // by S
	r      []move // by R
	back   []move // by the inverse of R
	inner  []int  // for each side the point G S, whose triangle is inside of it
	outer  []int  // for each Odd side the point G
}

// polygonOf returns the polygon of a symbol.
func polygonOf(f api.FareySymbol) *polygon {
	p := &polygon{labels: f.Labels}
	for i, label := range f.Labels {
		p.inner = append(p.inner, none)
		p.outer = append(p.outer, none)
		if label == api.Odd {
			x := p.point()
			p.outer[i] = x
			p.r[x].letter, p.back[x].letter = i+1, -i-1
		}
	}
	p.triangulate(f.Vertices)
	for i, j := range partners(f.Labels) {
		p.glue(i, j)
	}
	return p
}

// point adds a point, which all moves leave unchanged, and returns it.
func (p *polygon) point() int {
	i := len(p.s)
	p.s = append(p.s, move{to: i})
	p.r = append(p.r, move{to: i})
	p.back = append(p.back, move{to: i})
	return i
}

// triangulate adds the triangles of the polygon. An edge is a number: the point from its
// left to its right end, whose triangle is below it, or -1 - i for side i.
func (p *polygon) triangulate(vertices []api.Cusp) {
	// Infinity and the vertices so far, without those below an edge, each with its
	// denominator and the edge that ends in it.
	type corner struct{ q, edge int }
	corners := []corner{{}}
	for i, c := range vertices {
		edge := -1 - i
		for k := len(corners) - 1; k > 0 && corners[k].q == corners[k-1].q+c.Q; k-- {
			edge = p.triangle(corners[k].edge, edge)
			corners = corners[:k]
		}
		corners = append(corners, corner{c.Q, edge})
	}
	// Where a vertex between others is no mediant of its neighbours, the denominators rise
	// from there on. So only infinity and the last vertex, an integer, are left.
	last := len(vertices)
	if edge := corners[1].edge; edge >= 0 {
		p.inner[last] = edge
	} else {
		// There is no triangle: inside of either side is the outside of the other one.
		p.inner[0], p.inner[1] = p.outer[1], p.outer[0]
	}
}

// triangle adds a triangle above two edges, and returns its third edge.
func (p *polygon) triangle(left, right int) int {
	x, y, z := p.point(), p.point(), p.point()
	p.r[x].to, p.r[y].to, p.r[z].to = y, z, x
	p.back[x].to, p.back[y].to, p.back[z].to = z, x, y
	p.above(left, y)
	p.above(right, z)
	return x
}

// above lays the triangle of point i above an edge.
func (p *polygon) above(edge, i int) {
	if edge < 0 {
		p.inner[-1-edge] = i
	} else {
		p.link(edge, i)
	}
}

// link lets S exchange two points.
func (p *polygon) link(i, j int) {
	p.s[i].to, p.s[j].to = j, i
}

// glue lets S lead across side i to its partner, side j.
func (p *polygon) glue(i, j int) {
	switch {
	case p.labels[i] == api.Even:
		p.s[p.inner[i]].letter = i + 1
	case p.labels[i] == api.Odd:
		if p.inner[i] != none {
			p.link(p.inner[i], p.outer[i])
		}
	case i < j:
		p.s[p.inner[i]] = move{to: p.inner[j], letter: -i - 1}
		p.s[p.inner[j]] = move{to: p.inner[i], letter: i + 1}
	}
}

// last returns the move to the matrix of the last side, T^n for the last vertex n: from
// itself, or by S from the point inside of the side.
func (p *polygon) last() move {
	i := len(p.labels) - 1
	if p.labels[i] == api.Odd {
		return move{to: p.outer[i]}
	}
	return p.s[p.inner[i]]
}

// action returns the coset action on the points.
func (p *polygon) action() api.CosetAction {
	var a api.CosetAction
	for i, x := range p.s {
		a.S = append(a.S, x.to)
		a.T = append(a.T, p.s[p.back[i].to].to) // T is R^-1 S^-1.
	}
	return a
}
