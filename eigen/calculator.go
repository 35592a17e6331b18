package eigen

import (
	"halfplane/api"
	"halfplane/numfield"
	"halfplane/rational"
)

// calculator combines elements of a field, and rows of elements. It remembers the first
// error, behind which its results have no meaning.
type calculator struct {
	field api.Field
	e     api.Errno
}

// calculatorOf returns a calculator for a field, or ErrForm if this is not well-formed.
func calculatorOf(k api.Field) (*calculator, api.Errno) {
	c := &calculator{field: k}
	c.normal(nil)
	return c, c.e
}

// keep remembers an error, and returns the element beside it.
func (c *calculator) keep(a api.Elem, e api.Errno) api.Elem {
	if c.e == api.OK {
		c.e = e
	}
	return a
}

// normal returns a, normalized.
func (c *calculator) normal(a api.Elem) api.Elem {
	return c.keep(numfield.Normal(c.field, a))
}

// add returns a + b.
func (c *calculator) add(a, b api.Elem) api.Elem {
	return c.keep(numfield.Add(c.field, a, b))
}

// sub returns a - b.
func (c *calculator) sub(a, b api.Elem) api.Elem {
	return c.keep(numfield.Sub(c.field, a, b))
}

// mul returns a * b.
func (c *calculator) mul(a, b api.Elem) api.Elem {
	return c.keep(numfield.Mul(c.field, a, b))
}

// inverse returns the inverse of a.
func (c *calculator) inverse(a api.Elem) api.Elem {
	return c.keep(numfield.Inverse(c.field, a))
}

// negative returns -a.
func (c *calculator) negative(a api.Elem) api.Elem {
	return c.sub(nil, a)
}

// constant returns a rational number as an element.
func constant(x api.Rat) api.Elem {
	if rational.Sign(x) == 0 {
		return nil
	}
	return api.Elem{rational.Normal(x)}
}

// rows returns the rows of a, whose elements are normalized.
func (c *calculator) rows(a api.NMatrix) [][]api.Elem {
	l := make([][]api.Elem, a.Rows)
	for i := range l {
		for _, x := range a.A[i*a.Cols : (i+1)*a.Cols] {
			l[i] = append(l[i], c.normal(x))
		}
	}
	return l
}

// join returns the matrix with these rows of cols elements.
func join(cols int, rows [][]api.Elem) api.NMatrix {
	m := api.NMatrix{Rows: len(rows), Cols: cols}
	for _, row := range rows {
		m.A = append(m.A, row...)
	}
	return m
}

// product returns the rows, of n elements, of the product of the matrices with the rows
// of a and b.
func (c *calculator) product(a, b [][]api.Elem, n int) [][]api.Elem {
	l := make([][]api.Elem, len(a))
	for i, row := range a {
		l[i] = make([]api.Elem, n)
		for k, x := range row {
			c.addMultiple(l[i], b[k], x)
		}
	}
	return l
}

// addMultiple adds the multiple of the row source by x to another one.
func (c *calculator) addMultiple(row, source []api.Elem, x api.Elem) {
	if len(x) == 0 {
		return
	}
	for k, y := range source {
		if len(y) > 0 {
			row[k] = c.add(row[k], c.mul(x, y))
		}
	}
}

// echelon returns the rows of the reduced row echelon form of the matrix with these rows
// of n elements, which it changes, and the columns of its pivots.
func (c *calculator) echelon(rows [][]api.Elem, n int) (reduced [][]api.Elem, pivots []int) {
	for col := 0; col < n && len(pivots) < len(rows) && c.e == api.OK; col++ {
		below := rows[len(pivots):]
		i := firstIn(below, col)
		if i == len(below) {
			continue
		}
		below[0], below[i] = below[i], below[0]
		c.scale(below[0], col)
		for _, row := range below[1:] {
			c.clear(row, below[0], col)
		}
		pivots = append(pivots, col)
	}
	for i := len(pivots) - 1; i > 0 && c.e == api.OK; i-- {
		for _, row := range rows[:i] {
			c.clear(row, rows[i], pivots[i])
		}
	}
	return rows[:len(pivots)], pivots
}

// firstIn returns the first row that is not 0 in the column, or the number of rows.
func firstIn(rows [][]api.Elem, col int) int {
	for i, row := range rows {
		if len(row[col]) > 0 {
			return i
		}
	}
	return len(rows)
}

// scale divides a row by its element in the column, before which it is 0.
func (c *calculator) scale(row []api.Elem, col int) {
	inverse := c.inverse(row[col])
	for k := col; k < len(row); k++ {
		row[k] = c.mul(row[k], inverse)
	}
}

// clear subtracts a multiple of the row source, whose first element other than 0 is the 1
// in the column, from another one, such that this is 0 there.
func (c *calculator) clear(row, source []api.Elem, col int) {
	c.addMultiple(row, source, c.negative(row[col]))
}

// kernel returns the rows of the reduced row echelon form of the solutions of x * t = 0;
// the rows of t have n elements.
func (c *calculator) kernel(t [][]api.Elem, n int) [][]api.Elem {
	reduced, pivots := c.echelon(backwards(t, n), len(t))
	var l [][]api.Elem
	next := len(pivots) - 1
	last := len(t) - 1
	for free := last; free >= 0; free-- {
		if next >= 0 && pivots[next] == free {
			next--
			continue
		}
		x := make([]api.Elem, len(t))
		x[last-free] = constant(rational.Of(1))
		for i, col := range pivots[:next+1] {
			x[last-col] = c.negative(reduced[i][free])
		}
		l = append(l, x)
	}
	return l
}

// backwards returns the columns, of which there are n, of the matrix with the rows of t,
// each of them backwards. With the unknowns in this order those without pivots are the
// first ones possible, as in a matrix whose rows are solutions the pivots are.
func backwards(t [][]api.Elem, n int) [][]api.Elem {
	l := make([][]api.Elem, n)
	for j := range l {
		for i := len(t) - 1; i >= 0; i-- {
			l[j] = append(l[j], t[i][j])
		}
	}
	return l
}
