package basis_test

import (
	"math/rand"
	"testing"

	"pairing/api"
	"pairing/basis"
	"pairing/rational"
	"pairing/sparse"
)

// P4.3

// checkSolutions checks the results of Solve and SolveTransposed by the
// equations that they have to satisfy.
func checkSolutions(t *testing.T, b *basis.Basis, m []api.Vector, v api.Vector) {
	t.Helper()
	n := len(m)
	x, e := b.Solve(v)
	checkOK(t, e, "Solve of "+text(v))
	checkValid(t, x, n, "Solve of "+text(v))
	product, _ := sparse.Multiply(m, x, n)
	if text(product) != text(v) {
		t.Fatalf("Solve with %s of %s: %s", texts(m), describe(text(v)), describe(text(x)))
	}
	y, e := b.SolveTransposed(v)
	checkOK(t, e, "SolveTransposed of "+text(v))
	checkValid(t, y, n, "SolveTransposed of "+text(v))
	for k, column := range m {
		d, _ := sparse.Dot(y, column, n)
		if rational.Compare(d, sparse.At(v, k)) != 0 {
			t.Fatalf("SolveTransposed with %s of %s: %s", texts(m), describe(text(v)), describe(text(y)))
		}
	}
}

func TestSolve(t *testing.T) {
	for _, c := range []struct{ m, v, x, y string }{
		{"2 1; 0 1", "3 1", "1 1", "3/2 -1/2"},
		{"2 1; 0 1", "2 3", "-1/2 3", "1 2"},
		{"2 1; 0 1", "0 0", "0 0", "0 0"},
		{"5", "3", "3/5", "3/5"},
		{"0 1; 1 0", "3 4", "4 3", "4 3"},
		{"1 2; 3 4", "1 0", "-2 3/2", "-2 1"},
		{"1 2; 3 4", "0 1", "1 -1/2", "3/2 -1/2"},
		{"0 2 0; 0 0 3; 4 0 0", "1 2 3", "3/4 1/2 2/3", "1 1 1/4"},
	} {
		b := newBasis(t, matrix(c.m))
		for form := range disguises {
			v := disguised(vector(c.v), form)
			x, e := b.Solve(v)
			checkOK(t, e, "Solve")
			checkVector(t, x, vector(c.x), b.Size(), "Solve with "+c.m+" of "+c.v)
			y, e := b.SolveTransposed(v)
			checkOK(t, e, "SolveTransposed")
			checkVector(t, y, vector(c.y), b.Size(), "SolveTransposed with "+c.m+" of "+c.v)
		}
	}
}

func TestSolveEmpty(t *testing.T) {
	b := newBasis(t, nil)
	for _, v := range []api.Vector{nil, {}} {
		checkSolutions(t, b, nil, v)
	}
	x, e := b.Solve(unit(0))
	checkError(t, x, e, api.ErrRange, "Solve")
	y, e := b.SolveTransposed(unit(0))
	checkError(t, y, e, api.ErrRange, "SolveTransposed")
}

func TestSolveFaults(t *testing.T) {
	b := newBasis(t, matrix("1 2 3; 4 5 6; 7 8 10"))
	for range 2 {
		for _, f := range faults() {
			x, e := b.Solve(f.v)
			checkError(t, x, e, f.want, "Solve of "+text(f.v))
			y, e := b.SolveTransposed(f.v)
			checkError(t, y, e, f.want, "SolveTransposed of "+text(f.v))
		}
		checkOK(t, b.Replace(1, unit(1)), "Replace")
	}
	checkBasis(t, b, matrix("1 0 3; 4 1 6; 7 0 10"))
}

func TestSolveRandom(t *testing.T) {
	random := rand.New(rand.NewSource(3))
	for step := range 150 {
		m := randomMatrix(random, 1+step%12, step%5)
		if !isRegular(m) {
			continue
		}
		b := newBasis(t, m)
		for zeros := 0; zeros <= 9; zeros += 3 {
			v := randomVector(random, len(m), zeros)
			x, _ := b.Solve(v)
			y, _ := b.SolveTransposed(v)
			checkSolutions(t, b, m, v)
			again, _ := b.Solve(disguised(v, step))
			checkVector(t, again, x, len(m), "Solve of another form")
			again, _ = b.SolveTransposed(disguised(v, step))
			checkVector(t, again, y, len(m), "SolveTransposed of another form")
		}
	}
}
