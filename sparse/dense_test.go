package sparse_test

import (
	"math"
	"math/big"
	"math/rand"
	"testing"

	"pairing/api"
	"pairing/sparse"
)

// P3.2

func fracs(values []*big.Rat, form int) []api.Frac {
	var l []api.Frac
	for i, x := range values {
		l = append(l, disguise(x, form+i))
	}
	return l
}

func TestFromDense(t *testing.T) {
	v, e := sparse.FromDense(fracs(rats("0", "5", "0", "-2/3"), 0))
	checkOK(t, e, "FromDense")
	checkVector(t, v, rats("0", "5", "0", "-2/3"), "FromDense")
	random := rand.New(rand.NewSource(1))
	for n := range 200 {
		values := randomValues(random, n%20)
		l := fracs(values, n)
		v, e := sparse.FromDense(l)
		checkOK(t, e, "FromDense", l)
		checkVector(t, v, values, "FromDense", l)
	}
}

// Every form of a value at every place; zeros of all forms vanish.
func TestFromDenseForms(t *testing.T) {
	for form := range disguises {
		values := rats("0", "-4/6", "0", "1e25", "0")
		var l []api.Frac
		for _, x := range values {
			l = append(l, disguise(x, form))
		}
		v, e := sparse.FromDense(l)
		checkOK(t, e, "FromDense", l)
		checkVector(t, v, values, "FromDense", l)
	}
}

func TestFromDenseSizes(t *testing.T) {
	for _, l := range [][]api.Frac{nil, {}, make([]api.Frac, 1), make([]api.Frac, 4096)} {
		v, e := sparse.FromDense(l)
		checkOK(t, e, "FromDense", len(l))
		checkVector(t, v, nil, "FromDense", len(l))
	}
	values := zeros(4096)
	for i := range values {
		values[i].SetInt64(int64(i + 1))
	}
	v, e := sparse.FromDense(fracs(values, 0))
	checkOK(t, e, "FromDense", "4096")
	checkVector(t, v, values, "FromDense", "4096")
	for _, n := range []int{4097, 10000} {
		v, e := sparse.FromDense(make([]api.Frac, n))
		checkError(t, len(v), e, api.ErrRange, "FromDense", n)
	}
	l := append(fracs(values, 0), disguise(rat("1"), 0))
	v, e = sparse.FromDense(l)
	checkError(t, len(v), e, api.ErrRange, "FromDense", "4097")
}

func TestToDense(t *testing.T) {
	l, e := sparse.ToDense(vec(1, 5, 3, -2), 5)
	checkOK(t, e, "ToDense")
	checkList(t, l, rats("0", "5", "0", "-2", "0"), "ToDense")
	random := rand.New(rand.NewSource(2))
	for n := range 200 {
		values := randomValues(random, n%20)
		v := vector(values, n)
		l, e := sparse.ToDense(v, len(values))
		checkOK(t, e, "ToDense", v)
		checkList(t, l, values, "ToDense", v)
	}
}

func TestToDenseSizes(t *testing.T) {
	for _, n := range []int{0, 1, 7, 4096} {
		for _, v := range []api.Vector{nil, {}} {
			l, e := sparse.ToDense(v, n)
			checkOK(t, e, "ToDense", n)
			checkList(t, l, zeros(n), "ToDense", n)
		}
	}
	want := zeros(4096)
	want[0].SetInt64(3)
	want[4095].SetInt64(-4)
	l, e := sparse.ToDense(vec(0, 3, 4095, -4), 4096)
	checkOK(t, e, "ToDense", "4096")
	checkList(t, l, want, "ToDense", "4096")
}

func TestToDenseFaults(t *testing.T) {
	for _, f := range faults() {
		l, e := sparse.ToDense(f.v, f.n)
		checkError(t, len(l), e, f.want, "ToDense", f.v, f.n)
	}
}

// P3.3

func TestAt(t *testing.T) {
	random := rand.New(rand.NewSource(3))
	for n := range 100 {
		values := randomValues(random, n%12)
		v := vector(values, n)
		for i, x := range values {
			checkFrac(t, sparse.At(v, i), x, "At", v, i)
		}
		for _, i := range []int{-1, len(values), 5000, math.MinInt, math.MaxInt} {
			checkFrac(t, sparse.At(v, i), rat("0"), "At", v, i)
		}
	}
	checkFrac(t, sparse.At(nil, 0), rat("0"), "At", "nil")
	checkFrac(t, sparse.At(api.Vector{}, 0), rat("0"), "At", "an empty vector")
}

// The vector need not be valid: the first entry with the index counts, also if
// its value is 0.
func TestAtInvalid(t *testing.T) {
	v := vec(5, 2, 3, 1, 5, 9, -2, 4, 3, 8, 0, 0, 0, 7, math.MaxInt, 6, math.MinInt, 5, 9999, 3)
	for _, c := range []struct{ i, want int64 }{{5, 2}, {3, 1}, {-2, 4}, {0, 0}, {math.MaxInt, 6}, {math.MinInt, 5}, {9999, 3}, {4, 0}, {-1, 0}} {
		checkFrac(t, sparse.At(v, int(c.i)), big.NewRat(c.want, 1), "At", v, c.i)
	}
}

func TestAtForms(t *testing.T) {
	for form := range disguises {
		for _, s := range []string{"0", "1/2", "-6", "1e30", "-1e-30"} {
			v := withValue(disguise(rat(s), form))
			checkFrac(t, sparse.At(v, 1), rat(s), "At", v)
		}
	}
}
