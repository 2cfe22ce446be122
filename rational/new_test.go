package rational_test

import (
	"math"
	"math/big"
	"testing"

	"pairing/api"
	"pairing/integer"
	"pairing/rational"
)

// P2.1

func numbers() []*big.Int {
	l := edges()
	for n := int64(-12); n <= 12; n++ {
		l = append(l, big.NewInt(n))
	}
	return append(l, rat("1e40").Num(), rat("-15e39").Num())
}

func checkNew(t *testing.T, x, y *big.Int, num, den api.Int) {
	t.Helper()
	f, e := rational.New(num, den)
	if y.Sign() == 0 {
		checkError(t, f, e, api.ErrZero, "New", num, den)
		return
	}
	checkOK(t, e, "New", num, den)
	checkFrac(t, f, new(big.Rat).SetFrac(x, y), "New", num, den)
}

func TestNew(t *testing.T) {
	for _, x := range numbers() {
		for _, y := range numbers() {
			for _, num := range disguiseInt(x) {
				for _, den := range disguiseInt(y) {
					checkNew(t, x, y, num, den)
				}
			}
		}
	}
}

func TestFromInts(t *testing.T) {
	l := []int64{0, 1, -1, 2, -2, 3, -6, 10, math.MaxInt32, math.MinInt32, 1 << 32, math.MaxInt64, math.MaxInt64 - 1, math.MinInt64, math.MinInt64 + 1}
	for _, n := range l {
		for _, d := range l {
			f, e := rational.FromInts(n, d)
			if d == 0 {
				checkError(t, f, e, api.ErrZero, "FromInts", n, d)
				continue
			}
			checkOK(t, e, "FromInts", n, d)
			checkFrac(t, f, big.NewRat(n, d), "FromInts", n, d)
		}
	}
}

func TestFromInt(t *testing.T) {
	for _, x := range numbers() {
		for _, a := range disguiseInt(x) {
			checkFrac(t, rational.FromInt(a), new(big.Rat).SetInt(x), "FromInt", a)
		}
	}
}

// Numbers of several hundred digits.
func TestNewLong(t *testing.T) {
	power, _ := integer.Pow(integer.FromInt64(math.MaxInt64), 64)
	for _, c := range [][2]int64{{6, 4}, {-6, 4}, {6, -4}, {-6, -4}, {0, -4}, {4, 2}} {
		num, den := integer.Mul(power, integer.FromInt64(c[0])), integer.Mul(power, integer.FromInt64(c[1]))
		checkNew(t, big.NewInt(c[0]), big.NewInt(c[1]), num, den)
	}
}
