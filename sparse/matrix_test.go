package sparse_test

import (
	"math"
	"math/big"
	"math/rand"
	"testing"

	"pairing/api"
	"pairing/sparse"
)

// P3.5

func multiply(columns [][]*big.Rat, x []*big.Rat, rows int) []*big.Rat {
	sum := zeros(rows)
	for k, column := range columns {
		sum = addScaled(sum, column, x[k])
	}
	return sum
}

func checkMultiply(t *testing.T, columns [][]*big.Rat, x []*big.Rat, rows, form int) {
	t.Helper()
	m, v := matrix(columns, form), vector(x, form)
	product, e := sparse.Multiply(m, v, rows)
	checkOK(t, e, "Multiply", m, v, rows)
	checkVector(t, product, multiply(columns, x, rows), "Multiply", m, v, rows)
}

func TestMultiply(t *testing.T) {
	checkMultiply(t, [][]*big.Rat{rats("1", "0", "3"), zeros(3), rats("0", "0", "-6")}, rats("2", "5", "1"), 3, 0)
	random := rand.New(rand.NewSource(6))
	for n := range 400 {
		rows, size := n%7, n/7%7
		checkMultiply(t, randomColumns(random, rows, size), randomValues(random, size), rows, n)
	}
}

// The sum of all columns but one is the negative of that one.
func TestMultiplyCancellation(t *testing.T) {
	random := rand.New(rand.NewSource(7))
	for n := range 50 {
		columns := randomColumns(random, 6, 4)
		last := multiply(columns, rats("2", "-1/3", "1", "7"), 6)
		columns = append(columns, addScaled(zeros(6), last, rat("-1")))
		checkMultiply(t, columns, rats("2", "-1/3", "1", "7", "1"), 6, n)
		columns[4][n%6].Add(columns[4][n%6], rat("1e-20"))
		checkMultiply(t, columns, rats("2", "-1/3", "1", "7", "1"), 6, n)
	}
}

func TestMultiplySizes(t *testing.T) {
	for _, rows := range []int{0, 1, 4096} {
		checkMultiply(t, nil, nil, rows, 0)
		checkMultiply(t, [][]*big.Rat{zeros(rows)}, rats("3"), rows, 0)
		checkMultiply(t, [][]*big.Rat{zeros(rows)}, rats("0"), rows, 0)
	}
	random := rand.New(rand.NewSource(8))
	checkMultiply(t, [][]*big.Rat{randomValues(random, 4096), randomValues(random, 4096)}, rats("2/3", "-5"), 4096, 0)
	wide, x := [][]*big.Rat{}, zeros(4096)
	for k := range x {
		x[k].SetInt64(int64(k % 3))
		wide = append(wide, []*big.Rat{big.NewRat(int64(k), 6), big.NewRat(int64(k%5)-2, 1)})
	}
	checkMultiply(t, wide, x, 2, 0)
}

// Columns that are the same vector, with the same memory, as the factor.
func TestMultiplySameVector(t *testing.T) {
	x := rats("1/2", "-3", "0")
	v := vector(x, 2)
	product, e := sparse.Multiply([]api.Vector{v, v, v}, v, 3)
	checkOK(t, e, "Multiply", v)
	checkVector(t, product, multiply([][]*big.Rat{x, x, x}, x, 3), "Multiply", v)
}

func TestMultiplyFaults(t *testing.T) {
	for _, f := range faults() {
		one := vec(0, 1)
		for _, columns := range [][]api.Vector{{f.v}, {f.v, nil}, {nil, f.v}, {nil, nil, f.v, nil}} {
			for _, x := range []api.Vector{nil, one, vec(0, 0), vec(99, 1)} {
				checkMultiplyFault(t, columns, x, f.n, f.want)
			}
		}
		if f.n >= 0 && f.n <= 4096 {
			checkMultiplyFault(t, make([]api.Vector, f.n), f.v, 4, f.want)
		}
	}
}

func checkMultiplyFault(t *testing.T, columns []api.Vector, x api.Vector, rows int, want api.Errno) {
	t.Helper()
	v, e := sparse.Multiply(columns, x, rows)
	checkError(t, len(v), e, want, "Multiply", columns, x, rows)
}

func TestMultiplyErrorOrder(t *testing.T) {
	range3, order, zero := vec(3, 1), vec(1, 1, 0, 1), vec(1, 0)
	for _, rows := range []int{-1, 4097, math.MinInt, math.MaxInt} {
		checkMultiplyFault(t, nil, nil, rows, api.ErrRange)
		checkMultiplyFault(t, nil, zero, rows, api.ErrRange)
		checkMultiplyFault(t, []api.Vector{zero}, zero, rows, api.ErrRange)
	}
	checkMultiplyFault(t, nil, vec(0, 1), 3, api.ErrRange)
	checkMultiplyFault(t, []api.Vector{zero, range3}, order, 3, api.ErrZero)
	checkMultiplyFault(t, []api.Vector{nil, order, zero}, range3, 3, api.ErrOrder)
	checkMultiplyFault(t, []api.Vector{nil, nil}, order, 3, api.ErrOrder)
	checkMultiplyFault(t, []api.Vector{nil, nil}, zero, 3, api.ErrZero)
	checkMultiplyFault(t, []api.Vector{nil, nil, nil}, range3, 9, api.ErrRange)
	// The number of columns is the dimension of x, and comes after the columns.
	many := make([]api.Vector, 4097)
	checkMultiplyFault(t, many, nil, 3, api.ErrRange)
	many[4096] = zero
	checkMultiplyFault(t, many, nil, 3, api.ErrZero)
}

// P3.6

func transpose(columns [][]*big.Rat, rows int) [][]*big.Rat {
	var transposed [][]*big.Rat
	for i := range rows {
		var row []*big.Rat
		for _, column := range columns {
			row = append(row, column[i])
		}
		transposed = append(transposed, row)
	}
	return transposed
}

func checkTranspose(t *testing.T, columns [][]*big.Rat, rows, form int) {
	t.Helper()
	m := matrix(columns, form)
	transposed, e := sparse.Transpose(m, rows)
	checkOK(t, e, "Transpose", m, rows)
	checkMatrix(t, transposed, transpose(columns, rows), "Transpose", m, rows)
	again, e := sparse.Transpose(transposed, len(columns))
	checkOK(t, e, "Transpose", transposed)
	checkMatrix(t, again, columns, "Transpose", transposed)
}

func TestTranspose(t *testing.T) {
	checkTranspose(t, [][]*big.Rat{rats("1", "0", "3"), zeros(3), rats("0", "0", "-6")}, 3, 0)
	random := rand.New(rand.NewSource(9))
	for n := range 200 {
		rows := n % 8
		checkTranspose(t, randomColumns(random, rows, n/8%8), rows, n)
	}
}

func TestTransposeSizes(t *testing.T) {
	for _, rows := range []int{0, 1, 2, 4096} {
		checkTranspose(t, nil, rows, 0)
		checkTranspose(t, [][]*big.Rat{zeros(rows), zeros(rows)}, rows, 0)
	}
	random := rand.New(rand.NewSource(10))
	checkTranspose(t, randomColumns(random, 4096, 3), 4096, 0)
	checkTranspose(t, randomColumns(random, 3, 4096), 3, 0)
	rows, e := sparse.Transpose(make([]api.Vector, 4096), 4096)
	checkOK(t, e, "Transpose", "4096 columns")
	if len(rows) != 4096 {
		t.Errorf("Transpose: %d rows", len(rows))
	}
}

func TestTransposeFaults(t *testing.T) {
	for _, f := range faults() {
		for _, columns := range [][]api.Vector{{f.v}, {f.v, nil}, {nil, f.v}, {nil, nil, f.v, nil}} {
			checkTransposeFault(t, columns, f.n, f.want)
		}
	}
	range3, order, zero := vec(3, 1), vec(1, 1, 0, 1), vec(1, 0)
	checkTransposeFault(t, []api.Vector{order, zero, range3}, 3, api.ErrOrder)
	checkTransposeFault(t, []api.Vector{nil, zero, order}, 3, api.ErrZero)
	checkTransposeFault(t, []api.Vector{range3, zero}, 3, api.ErrRange)
	for _, rows := range []int{-1, 4097, math.MinInt, math.MaxInt} {
		checkTransposeFault(t, nil, rows, api.ErrRange)
		checkTransposeFault(t, []api.Vector{zero}, rows, api.ErrRange)
	}
	// The number of columns comes before the columns.
	for _, n := range []int{4097, 5000} {
		many := make([]api.Vector, n)
		checkTransposeFault(t, many, 3, api.ErrRange)
		many[0] = zero
		checkTransposeFault(t, many, 3, api.ErrRange)
	}
}

func checkTransposeFault(t *testing.T, columns []api.Vector, rows int, want api.Errno) {
	t.Helper()
	l, e := sparse.Transpose(columns, rows)
	checkError(t, len(l), e, want, "Transpose", columns, rows)
}
