package basis

import (
	"pairing/api"
	"pairing/rational"
	"pairing/sparse"
)

// eta is a matrix that is the identity except for one column, at place. If a
// column of a basis B is replaced by v, and x is the solution of B x = v, the
// basis becomes the product of B and the eta matrix with the column x.
type eta struct {
	place  int
	column api.Vector
}

func (t eta) pivot() api.Frac {
	return sparse.At(t.column, t.place)
}

// solve replaces the right side of a system with this matrix by its solution.
func (t eta) solve(x []api.Frac) {
	if rational.Sign(x[t.place]) == 0 {
		return
	}
	value, _ := rational.Div(x[t.place], t.pivot())
	for _, entry := range t.column {
		x[entry.Index] = rational.Sub(x[entry.Index], rational.Mul(entry.Value, value))
	}
	x[t.place] = value
}

// solveTransposed does the same as solve for the transposed matrix: only one of
// its rows is not a row of the identity.
func (t eta) solveTransposed(y []api.Frac) {
	rest := remainder(y[t.place], t.column, t.place, y)
	y[t.place], _ = rational.Div(rest, t.pivot())
}
