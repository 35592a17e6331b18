package residue

// Echelon replaces the rows of a matrix by those of its reduced row echelon form, and
// returns the columns of the pivots; the rows behind those with pivots become 0.
func (q Prime) Echelon(rows [][]uint64) (pivots []int) {
	pivots, _ = q.triangle(rows)
	for i := len(pivots) - 1; i > 0; i-- {
		at := places(rows[i], pivots[i])
		for _, row := range rows[:i] {
			q.clear(row, rows[i], at)
		}
	}
	return pivots
}

// Det returns the determinant of a square matrix, whose rows it changes.
func (q Prime) Det(rows [][]uint64) uint64 {
	pivots, det := q.triangle(rows)
	if len(pivots) < len(rows) {
		return 0
	}
	return det
}

// triangle brings a matrix to row echelon form with pivots 1, which it returns with
// the product by which a determinant was divided.
func (q Prime) triangle(rows [][]uint64) (pivots []int, det uint64) {
	det = 1
	for col := 0; len(pivots) < len(rows) && col < len(rows[0]); col++ {
		below := rows[len(pivots):]
		i := firstIn(below, col)
		if i == len(below) {
			continue
		}
		if i > 0 {
			below[0], below[i] = below[i], below[0]
			det = q.negative(det)
		}
		det = q.reduce(det * below[0][col])
		at := places(below[0], col)
		q.scale(below[0], at)
		for _, row := range below[1:] {
			q.clear(row, below[0], at)
		}
		pivots = append(pivots, col)
	}
	return pivots, det
}

// firstIn returns the first row that is not 0 in the column, or the number of rows.
func firstIn(rows [][]uint64, col int) int {
	for i, row := range rows {
		if row[col] != 0 {
			return i
		}
	}
	return len(rows)
}

// places returns the columns from the given one on in which the row is not 0.
func places(row []uint64, col int) []int {
	at := make([]int, 0, len(row)-col)
	for k := col; k < len(row); k++ {
		if row[k] != 0 {
			at = append(at, k)
		}
	}
	return at
}

// scale divides a row by its first element that is not 0; at are the places of these.
func (q Prime) scale(row []uint64, at []int) {
	factor := q.invert(row[at[0]])
	for _, k := range at {
		row[k] = q.reduce(row[k] * factor)
	}
}

// clear subtracts a multiple of the row source from another one, such that this is 0
// at the first place; there source is 1, and it is 0 at all others than these places.
func (q Prime) clear(row, source []uint64, at []int) {
	factor := q.negative(row[at[0]])
	if factor == 0 {
		return
	}
	for _, k := range at {
		row[k] = q.reduce(row[k] + factor*source[k])
	}
}
