package integer_test

import (
	"math"
	"math/big"
	"math/rand"
	"testing"

	"pairing/api"
	"pairing/integer"
)

// P1.6

func TestPow(t *testing.T) {
	for _, x := range samples() {
		want := big.NewInt(1)
		for n := range 65 {
			for _, a := range disguises(x) {
				power, e := integer.Pow(a, n)
				if e != api.OK {
					t.Errorf("Pow of %v, %d: error %d", a, n, e)
				}
				checkInt(t, power, want, "Pow", x, n)
			}
			want.Mul(want, x)
		}
	}
}

func TestPowRange(t *testing.T) {
	for _, n := range []int{-1, 65, 66, 128, 256, math.MaxInt, math.MinInt, -64} {
		for _, x := range []int64{0, 1, -1, 2} {
			power, e := integer.Pow(integer.FromInt64(x), n)
			checkZero(t, power, "Pow")
			if e != api.ErrRange {
				t.Errorf("Pow of %d, %d: error %d", x, n, e)
			}
		}
	}
}

func checkSqrt(t *testing.T, x *big.Int, a api.Int) {
	t.Helper()
	root, e := integer.Sqrt(a)
	if x.Sign() < 0 {
		checkZero(t, root, "Sqrt")
		if e != api.ErrRange {
			t.Errorf("Sqrt of %v: error %d", a, e)
		}
		return
	}
	if e != api.OK {
		t.Errorf("Sqrt of %v: error %d", a, e)
	}
	checkInt(t, root, new(big.Int).Sqrt(x), "Sqrt", x)
}

func TestSqrt(t *testing.T) {
	for _, x := range samples() {
		for _, a := range disguises(x) {
			checkSqrt(t, x, a)
		}
	}
	for n := range int64(2000) {
		checkSqrt(t, big.NewInt(n), integer.FromInt64(n))
	}
}

func TestSqrtSquares(t *testing.T) {
	random := rand.New(rand.NewSource(8))
	for n := range 300 {
		root := randomInt(random, 1+n%60)
		x := new(big.Int).Mul(root, root)
		for _, d := range []int64{0, -1, 2} { // the square, one less, one more
			x.Add(x, big.NewInt(d))
			checkSqrt(t, x, fromBig(x))
		}
	}
}

func TestBitLen(t *testing.T) {
	for _, x := range samples() {
		for _, a := range disguises(x) {
			if n := integer.BitLen(a); n != x.BitLen() {
				t.Errorf("BitLen of %v: %d", a, n)
			}
		}
	}
	one := big.NewInt(1)
	for n := range 200 {
		power := new(big.Int).Lsh(one, uint(n))
		if l := integer.BitLen(fromBig(power)); l != n+1 {
			t.Errorf("BitLen of 2^%d: %d", n, l)
		}
		if l := integer.BitLen(fromBig(power.Sub(power, one))); l != n {
			t.Errorf("BitLen of 2^%d - 1: %d", n, l)
		}
	}
}
