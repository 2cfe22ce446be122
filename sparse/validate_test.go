package sparse_test

import (
	"math"
	"math/big"
	"testing"

	"pairing/api"
	"pairing/sparse"
)

// P3.1

// fault is an argument of Validate with its error.
type fault struct {
	v    api.Vector
	n    int
	want api.Errno
}

// withValue returns a vector whose entry in the middle has the value f.
func withValue(f api.Frac) api.Vector {
	v := vec(0, 1, 1, 1, 2, 1)
	v[1].Value = f
	return v
}

// faults returns arguments of Validate for which it returns an error; the other
// functions return the same one.
func faults() []fault {
	l := []fault{
		{nil, -1, api.ErrRange},
		{nil, 4097, api.ErrRange},
		{nil, math.MinInt, api.ErrRange},
		{nil, math.MaxInt, api.ErrRange},
		{vec(0, 1), -1, api.ErrRange},
		{vec(0, 1), 4097, api.ErrRange},
		{vec(0, 1), 0, api.ErrRange},
		{vec(3, 1), 3, api.ErrRange},
		{vec(4096, 1), 4096, api.ErrRange},
		{vec(-1, 1), 3, api.ErrRange},
		{vec(math.MinInt, 1), 3, api.ErrRange},
		{vec(math.MaxInt, 1), 3, api.ErrRange},
		{vec(0, 1, 1, 1, 3, 1), 3, api.ErrRange},
		{vec(0, 1, 0, 1), 3, api.ErrOrder},
		{vec(2, 1, 2, 1), 3, api.ErrOrder},
		{vec(1, 1, 0, 1), 3, api.ErrOrder},
		{vec(0, 1, 2, 1, 1, 1), 3, api.ErrOrder},
		{vec(1, 1, 2, 1, 0, 1), 3, api.ErrOrder},
		{vec(0, 0), 3, api.ErrZero},
		{vec(0, 1, 2, 0), 3, api.ErrZero},

		// The dimension comes before the entries.
		{vec(0, 0), -1, api.ErrRange},
		{vec(1, 1, 0, 1), 4097, api.ErrRange},
		// An entry with several faults.
		{vec(3, 0), 3, api.ErrRange},
		{vec(1, 1, -1, 0), 3, api.ErrRange},
		{vec(1, 1, -1, 1), 3, api.ErrRange},
		{vec(1, 1, 1, 0), 3, api.ErrOrder},
		{vec(1, 1, 0, 0), 3, api.ErrOrder},
		// Several entries with faults.
		{vec(1, 0, 3, 1), 3, api.ErrZero},
		{vec(1, 0, 0, 1), 3, api.ErrZero},
		{vec(1, 1, 0, 1, 7, 1), 3, api.ErrOrder},
		{vec(1, 1, 1, 1, 2, 0), 3, api.ErrOrder},
		{vec(7, 1, 0, 0), 3, api.ErrRange},
		{vec(-1, 1, 0, 0), 3, api.ErrRange},
	}
	for form := range disguises {
		l = append(l, fault{withValue(disguise(new(big.Rat), form)), 3, api.ErrZero})
	}
	return l
}

func TestValidateFaults(t *testing.T) {
	for _, f := range faults() {
		if e := sparse.Validate(f.v, f.n); e != f.want {
			t.Errorf("Validate of %v, %d: error %d, want %d", f.v, f.n, e, f.want)
		}
	}
}

func TestValidate(t *testing.T) {
	full := zeros(4096)
	for i := range full {
		full[i] = big.NewRat(int64(i-5000), 7)
	}
	for _, c := range []fault{
		{nil, 0, api.OK}, {api.Vector{}, 0, api.OK}, {nil, 1, api.OK}, {nil, 4096, api.OK},
		{vec(0, 1), 1, api.OK}, {vec(2, -1), 3, api.OK}, {vec(4095, 1), 4096, api.OK},
		{vec(0, 1, 1, 2, 2, 3), 3, api.OK}, {vec(0, 1, 2, -3, 9, 1, 4095, 7), 4096, api.OK},
		{vector(full, 0), 4096, api.OK},
	} {
		checkOK(t, sparse.Validate(c.v, c.n), "Validate", c.v, c.n)
	}
}

// R9: the value counts, not its form.
func TestValidateForms(t *testing.T) {
	for _, s := range []string{"1", "-1", "2/3", "-1e-30", "1e30"} {
		for form := range disguises {
			v := withValue(disguise(rat(s), form))
			checkOK(t, sparse.Validate(v, 3), "Validate", v)
		}
	}
	half := api.Frac{Num: api.Int{Neg: true, Digits: []uint32{0, 1}}, Den: api.Int{Neg: true, Digits: []uint32{0, 2, 0}}}
	checkOK(t, sparse.Validate(withValue(half), 3), "Validate", half)
}

// All vectors of up to three entries with small indexes, against the words of
// the promise.
func TestValidateAll(t *testing.T) {
	const indexes, values = 5, 2
	const entries = indexes * values
	for code := range entries * entries * entries {
		var v api.Vector
		for rest := code; rest > 0; rest /= entries {
			v = append(v, vec(rest%indexes-1, rest/indexes%values)...)
		}
		for n := range 4 {
			if e := sparse.Validate(v, n); e != errorOf(v, n) {
				t.Errorf("Validate of %v, %d: error %d, want %d", v, n, e, errorOf(v, n))
			}
		}
	}
}

func errorOf(v api.Vector, n int) api.Errno {
	for i, entry := range v {
		if entry.Index < 0 || entry.Index > n-1 {
			return api.ErrRange
		}
		if i > 0 && entry.Index <= v[i-1].Index {
			return api.ErrOrder
		}
		if len(entry.Value.Num.Digits) == 0 {
			return api.ErrZero
		}
	}
	return api.OK
}
