package basis_test

import (
	"fmt"
	"math"
	"math/rand"
	"slices"
	"testing"

	"pairing/api"
	"pairing/basis"
	"pairing/rational"
	"pairing/sparse"
)

// P4.1

// fault is a vector with the error of sparse.Validate for dimension 3.
type fault struct {
	v    api.Vector
	want api.Errno
}

func faults() []fault {
	at := func(indexes ...int) api.Vector {
		var v api.Vector
		for _, i := range indexes {
			v = append(v, api.Entry{Index: i, Value: frac("1")})
		}
		return v
	}
	l := []fault{
		{at(3), api.ErrRange}, {at(-1), api.ErrRange}, {at(0, 1, 2, 3), api.ErrRange},
		{at(math.MinInt), api.ErrRange}, {at(math.MaxInt), api.ErrRange},
		{at(0, 0), api.ErrOrder}, {at(2, 1), api.ErrOrder}, {at(0, 2, 1), api.ErrOrder},
		{at(2, 1, 3), api.ErrOrder}, {at(3, 1), api.ErrRange},
	}
	for form := range disguises {
		v := at(0, 1, 2)
		v[form%3].Value = disguise(frac("0"), form)
		l = append(l, fault{v, api.ErrZero})
	}
	none := at(1)
	none[0].Value = api.Frac{}
	return append(l, fault{none, api.ErrZero})
}

func checkNewError(t *testing.T, n int, m []api.Vector, want api.Errno) {
	t.Helper()
	if b, e := basis.New(n, m); b != nil || e != want {
		t.Errorf("New of %d, %s: %v, error %d, want %d", n, texts(m), b, e, want)
	}
}

func TestNewErrors(t *testing.T) {
	bad := api.Vector{{Index: -1, Value: frac("1")}}
	for _, n := range []int{-1, 65, 100, math.MinInt, math.MaxInt} {
		checkNewError(t, n, nil, api.ErrRange)
		checkNewError(t, n, []api.Vector{bad}, api.ErrRange)
	}
	checkNewError(t, 65, identity(65), api.ErrRange)
	for _, n := range []int{0, 1, 3, 64} {
		for _, count := range []int{0, n - 1, n + 1, 100} {
			if count >= 0 && count != n {
				checkNewError(t, n, identity(count), api.ErrShape)
				checkNewError(t, n, slices.Repeat([]api.Vector{bad}, count), api.ErrShape)
			}
		}
	}
}

func TestNewFaults(t *testing.T) {
	for _, f := range faults() {
		for k := range 3 {
			m := matrix("1 2 3; 4 5 6; 7 8 10")
			m[k] = f.v
			checkNewError(t, 3, m, f.want)
			// A fault comes before linear dependency, also of columns before it.
			m = []api.Vector{nil, nil, nil}
			m[k] = f.v
			checkNewError(t, 3, m, f.want)
			// The first faulty column counts.
			for _, other := range faults() {
				m = []api.Vector{other.v, other.v, other.v}
				for i := range k + 1 {
					m[i] = unit(0)
				}
				m[k] = f.v
				checkNewError(t, 3, m, f.want)
			}
		}
	}
}

func TestNewSingular(t *testing.T) {
	for _, m := range [][]api.Vector{
		{nil}, {{}}, matrix("0 0; 0 0"), matrix("1 0; 0 0"), matrix("0 0; 0 1"), matrix("0 1; 0 0"),
		matrix("1 2; 2 4"), matrix("1 1; 1 1"), matrix("1/2 1/3; 3 2"), matrix("0 1; 0 5"), matrix("1 5; 0 0"),
		matrix("1 0 5; 0 1 5; 0 0 0"), matrix("1 2 3; 4 5 6; 7 8 9"), matrix("1 0 1; 0 1 1; 1 1 2"),
		matrix("100000000000000000001 1; 100000000000000000001 1"),
	} {
		for form := range disguises {
			checkNewError(t, len(m), disguisedColumns(m, form), api.ErrSingular)
		}
	}
	for _, n := range []int{2, 10, 64} {
		m := identity(n)
		m[n-1] = nil
		checkNewError(t, n, m, api.ErrSingular)
		m[n-1] = disguised(m[n/2-1], 2)
		checkNewError(t, n, m, api.ErrSingular)
		for _, v := range m[:n-1] {
			m[n-1], _ = sparse.AddScaled(v, m[n-1], frac("-2/3"), n)
		}
		checkNewError(t, n, m, api.ErrSingular)
		m[n-1], _ = sparse.AddScaled(m[n-1], unit(n-1), frac("1/1000000000000"), n)
		newBasis(t, m)
	}
}

func TestNew(t *testing.T) {
	for _, m := range [][]api.Vector{
		nil, {}, matrix("7"), matrix("-2/3"), matrix("2 1; 0 1"), matrix("0 2; 3 0"), matrix("1 2; 3 4"),
		matrix("0 0 1; 1 0 0; 0 1 0"), matrix("1 2 3; 4 5 6; 7 8 10"), matrix("0 1 1; 1 0 1; 1 1 0"),
		matrix("1 1/2 1/3; 1/2 1/3 1/4; 1/3 1/4 1/5"), matrix("0 1 2 0; 0 0 3 4; 5 0 0 6; 7 8 0 0"),
		matrix("100000000000000000001 1; 100000000000000000000 1"), identity(64),
	} {
		for form := range disguises {
			b := newBasis(t, disguisedColumns(m, form))
			checkBasis(t, b, m)
		}
	}
}

// All matrices of a size with elements of -1, 0 and 1.
func TestNewAll(t *testing.T) {
	for _, n := range []int{1, 2, 3} {
		count := 1
		for range n * n {
			count *= 3
		}
		for code := range count {
			m := make([]api.Vector, n)
			for i := range n * n {
				if value := int64(code%3 - 1); value != 0 {
					f, _ := rational.FromInts(value, 1)
					m[i/n] = append(m[i/n], api.Entry{Index: i % n, Value: f})
				}
				code /= 3
			}
			if isRegular(m) {
				b := newBasis(t, m)
				checkFrac(t, b.Determinant(), determinant(m), "Determinant of "+texts(m))
				checkFactors(t, b.Factors(), m)
				checkSolutions(t, b, m, unit(0))
			} else {
				checkNewError(t, n, m, api.ErrSingular)
			}
		}
	}
}

func TestNewRandom(t *testing.T) {
	random := rand.New(rand.NewSource(1))
	regular := 0
	for step := range 400 {
		m := randomMatrix(random, step%9, step%10)
		if isRegular(m) {
			regular++
			checkBasis(t, newBasis(t, disguisedColumns(m, step)), m)
		} else {
			checkNewError(t, len(m), disguisedColumns(m, step), api.ErrSingular)
		}
	}
	if regular < 100 || regular > 300 {
		t.Error("there are too many or too few regular matrices:", regular)
	}
}

// largeMatrix returns a sparse regular matrix of small numbers that is not
// triangular.
func largeMatrix(random *rand.Rand, n int) []api.Vector {
	for {
		var m []api.Vector
		for k := range n {
			v, _ := sparse.Scale(unit((k+7)%n), frac("5"), n)
			for range 2 {
				v, _ = sparse.AddScaled(v, unit(random.Intn(n)), frac("-1"), n)
			}
			m = append(m, v)
		}
		if isRegular(m) {
			return m
		}
	}
}

func TestNewLarge(t *testing.T) {
	random := rand.New(rand.NewSource(2))
	for _, n := range []int{20, 63, 64} {
		m := largeMatrix(random, n)
		checkBasis(t, newBasis(t, m), m)
	}
}

// P4.2

func TestColumn(t *testing.T) {
	b := newBasis(t, matrix("1 2; 3 4"))
	for k, want := range matrix("1 2; 3 4") {
		v, e := b.Column(k)
		checkOK(t, e, "Column")
		checkVector(t, v, want, 2, "Column")
	}
	for _, k := range []int{-1, 2, 64, math.MinInt, math.MaxInt} {
		v, e := b.Column(k)
		checkError(t, v, e, api.ErrRange, fmt.Sprint("Column of ", k))
	}
	empty := newBasis(t, nil)
	for _, k := range []int{-1, 0, 1} {
		v, e := empty.Column(k)
		checkError(t, v, e, api.ErrRange, fmt.Sprint("Column of ", k))
	}
	large := newBasis(t, identity(64))
	v, e := large.Column(63)
	checkOK(t, e, "Column of 63")
	checkVector(t, v, unit(63), 64, "Column of 63")
	v, e = large.Column(64)
	checkError(t, v, e, api.ErrRange, "Column of 64")
}

func TestColumnReplaced(t *testing.T) {
	b := newBasis(t, matrix("1 2; 3 4"))
	for form := range disguises {
		checkOK(t, b.Replace(1, disguised(vector("5 -6/7"), form)), "Replace")
		checkOK(t, b.Replace(0, disguised(vector("0 1/2"), form)), "Replace")
		checkBasis(t, b, matrix("0 5; 1/2 -6/7"))
		checkOK(t, b.Replace(0, vector("1 3")), "Replace")
		checkOK(t, b.Replace(1, vector("2 4")), "Replace")
		checkBasis(t, b, matrix("1 2; 3 4"))
	}
}
