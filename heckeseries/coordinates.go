package heckeseries

import (
	"slices"

	"halfplane/api"
	"halfplane/matrix"
	"halfplane/series"
)

// coordinates returns the matrix whose row i contains the coordinates of images[i] with
// respect to the equally many series of basis, where coefficients below prec count.
//
// The rows of the system are the exponents, its columns the series of the basis and then
// the images. In its echelon form the columns of the images contain their coordinates.
func coordinates(images, basis []api.Series, prec int) (api.Matrix, api.Errno) {
	size := len(basis)
	reduced, pivots := echelon(system(slices.Concat(basis, images), prec), 2*size)
	if len(pivots) < size || pivots[size-1] != size-1 {
		return api.Matrix{}, api.ErrPrec
	}
	if len(pivots) > size {
		return api.Matrix{}, api.ErrMember
	}
	var entries []api.Rat
	for i := range images {
		for j := range basis {
			entries = append(entries, reduced[j][size+i])
		}
	}
	return api.Matrix{Rows: size, Cols: size, A: entries}, api.OK
}

// system returns the coefficients of the series, row by row for each exponent below prec.
func system(l []api.Series, prec int) [][]api.Rat {
	first := prec
	for _, a := range l {
		first = min(first, a.From)
	}
	var rows [][]api.Rat
	for n := first; n < prec; n++ {
		row := make([]api.Rat, len(l))
		for i, a := range l {
			row[i], _ = series.At(a, n)
		}
		rows = append(rows, row)
	}
	return rows
}

// echelon returns the rows of the reduced echelon form, and the columns of its pivots.
// There may be more rows than a matrix has, so that they are reduced in parts.
func echelon(rows [][]api.Rat, cols int) (reduced [][]api.Rat, pivots []int) {
	for len(rows) > 0 {
		part, _ := matrix.FromRows(cols, slices.Concat(reduced, rows[:min(len(rows), api.MaxDim-len(reduced))]))
		rows = rows[part.Rows-len(reduced):]
		part, pivots, _ = matrix.Echelon(part)
		reduced = nil
		for l := range slices.Chunk(part.A, cols) {
			reduced = append(reduced, l)
		}
	}
	return reduced, pivots
}
