package residue

// CharPoly returns the characteristic polynomial of a square matrix, whose rows it
// changes; the coefficient of x^i has the index i.
func (q Prime) CharPoly(rows [][]uint64) []uint64 {
	q.hessenberg(rows)
	// l[m] is the polynomial of the first m rows and columns.
	l := [][]uint64{{1}}
	for m := range rows {
		next := append([]uint64{0}, l[m]...)
		q.addMultiple(next, l[m], q.negative(rows[m][m]))
		product := uint64(1)
		for i := m - 1; i >= 0 && product != 0; i-- {
			product = q.reduce(product * rows[i+1][i])
			q.addMultiple(next, l[i], q.negative(q.reduce(product*rows[i][m])))
		}
		l = append(l, next)
	}
	return l[len(rows)]
}

// addMultiple adds factor * g to the polynomial f, which is not shorter, in place.
func (q Prime) addMultiple(f, g []uint64, factor uint64) {
	for i, c := range g {
		f[i] = q.reduce(f[i] + factor*c)
	}
}

// hessenberg replaces a matrix by a similar one that is 0 below the diagonal that is
// below the main one.
func (q Prime) hessenberg(rows [][]uint64) {
	for m := 1; m < len(rows)-1; m++ {
		i := m + firstIn(rows[m:], m-1)
		if i == len(rows) {
			continue
		}
		rows[m], rows[i] = rows[i], rows[m]
		for _, row := range rows {
			row[m], row[i] = row[i], row[m]
		}
		inverse := q.invert(rows[m][m-1])
		for i := m + 1; i < len(rows); i++ {
			if rows[i][m-1] != 0 {
				q.conjugate(rows, m, i, q.reduce(rows[i][m-1]*inverse))
			}
		}
	}
}

// conjugate subtracts factor times row m from row i, and adds factor times column i
// to column m.
func (q Prime) conjugate(rows [][]uint64, m, i int, factor uint64) {
	q.addMultiple(rows[i], rows[m], q.negative(factor))
	for _, row := range rows {
		row[m] = q.reduce(row[m] + factor*row[i])
	}
}
