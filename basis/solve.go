package basis

import (
	"pairing/api"
	"pairing/rational"
	"pairing/sparse"
)

// solve returns the solution of the system with the factorized matrix and this
// right side.
func solve(f api.Factors, right []api.Frac) []api.Frac {
	n := len(right)
	// terms holds, for each row, what has to be added to get its right side: one
	// sum is faster than many.
	terms := make([][]api.Frac, n)
	for i, row := range f.Rows {
		terms[i] = []api.Frac{right[row]}
	}
	for k, column := range f.Lower {
		value := rational.Sum(terms[k])
		subtract(terms, column, k, value)
		terms[k] = []api.Frac{value}
	}
	x := make([]api.Frac, n)
	for k := n - 1; k >= 0; k-- {
		value, _ := rational.Div(rational.Sum(terms[k]), sparse.At(f.Upper[k], k))
		subtract(terms, f.Upper[k], k, value)
		x[f.Cols[k]] = value
	}
	return x
}

// subtract subtracts value times the column from the right side, except in the
// row of its diagonal.
func subtract(terms [][]api.Frac, column api.Vector, diagonal int, value api.Frac) {
	if rational.Sign(value) == 0 {
		return
	}
	value = rational.Negate(value)
	for _, entry := range column {
		if entry.Index != diagonal {
			terms[entry.Index] = append(terms[entry.Index], rational.Mul(entry.Value, value))
		}
	}
}

// solveTransposed does the same as solve for the transposed matrix.
func solveTransposed(f api.Factors, right []api.Frac) []api.Frac {
	n := len(right)
	z := make([]api.Frac, n)
	for k, column := range f.Upper {
		rest := remainder(right[f.Cols[k]], column, k, z)
		z[k], _ = rational.Div(rest, sparse.At(column, k))
	}
	y := make([]api.Frac, n)
	for k := n - 1; k >= 0; k-- {
		z[k] = remainder(z[k], f.Lower[k], k, z)
		y[f.Rows[k]] = z[k]
	}
	return y
}

// remainder returns the right side minus the products of the column and z,
// except that of its diagonal.
func remainder(right api.Frac, column api.Vector, diagonal int, z []api.Frac) api.Frac {
	terms := []api.Frac{right}
	for _, entry := range column {
		if entry.Index != diagonal && rational.Sign(z[entry.Index]) != 0 {
			terms = append(terms, rational.Negate(rational.Mul(entry.Value, z[entry.Index])))
		}
	}
	return rational.Sum(terms)
}
