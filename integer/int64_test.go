package integer_test

import (
	"math"
	"math/big"
	"testing"

	"pairing/api"
	"pairing/integer"
)

// P1.1

func TestFromInt64(t *testing.T) {
	for _, n := range []int64{0, 1, -1, 7, -7, math.MaxInt32, math.MinInt32, 1<<32 - 1, 1 << 32, -1 << 32, 1<<32 + 1, 1 << 62, math.MaxInt64 - 1, math.MaxInt64, math.MinInt64 + 1, math.MinInt64} {
		a := integer.FromInt64(n)
		checkInt(t, a, big.NewInt(n), "FromInt64", n)
		if m, e := integer.ToInt64(a); m != n || e != api.OK {
			t.Errorf("ToInt64 of %d: %d, error %d", n, m, e)
		}
	}
}

func TestToInt64(t *testing.T) {
	for _, x := range samples() {
		want, wantError := int64(0), api.ErrRange
		if x.IsInt64() {
			want, wantError = x.Int64(), api.OK
		}
		for _, a := range disguises(x) {
			if n, e := integer.ToInt64(a); n != want || e != wantError {
				t.Errorf("ToInt64 of %v: %d, error %d", a, n, e)
			}
		}
	}
}

func TestToInt64Limits(t *testing.T) {
	for _, c := range []struct {
		a    api.Int
		want int64
		e    api.Errno
	}{
		{api.Int{Digits: []uint32{0xffffffff, 0x7fffffff}}, math.MaxInt64, api.OK},
		{api.Int{Digits: []uint32{0, 0x80000000}}, 0, api.ErrRange},
		{api.Int{Neg: true, Digits: []uint32{0, 0x80000000}}, math.MinInt64, api.OK},
		{api.Int{Neg: true, Digits: []uint32{0, 0x80000000, 0, 0}}, math.MinInt64, api.OK},
		{api.Int{Neg: true, Digits: []uint32{1, 0x80000000}}, 0, api.ErrRange},
		{api.Int{Digits: []uint32{0xffffffff, 0xffffffff}}, 0, api.ErrRange},
		{api.Int{Digits: []uint32{0, 0, 1}}, 0, api.ErrRange},
		{api.Int{Neg: true, Digits: []uint32{5, 0, 1}}, 0, api.ErrRange},
	} {
		if n, e := integer.ToInt64(c.a); n != c.want || e != c.e {
			t.Errorf("ToInt64 of %v: %d, error %d", c.a, n, e)
		}
	}
}
