package integer_test

import (
	"math/big"
	"math/rand"
	"testing"

	"pairing/api"
	"pairing/integer"
)

// P1.4

func checkDivMod(t *testing.T, x, y *big.Int, a, b api.Int) {
	t.Helper()
	q, r, e := integer.DivMod(a, b)
	if y.Sign() == 0 {
		checkZero(t, q, "quotient by zero")
		checkZero(t, r, "remainder by zero")
		if e != api.ErrZero {
			t.Errorf("DivMod of %v, %v: error %d", a, b, e)
		}
		return
	}
	wantQ, wantR := floorDiv(x, y)
	checkInt(t, q, wantQ, "quotient", x, y)
	checkInt(t, r, wantR, "remainder", x, y)
	if e != api.OK {
		t.Errorf("DivMod of %v, %v: error %d", x, y, e)
	}
}

func TestDivMod(t *testing.T) {
	forPairs(func(x, y *big.Int) { checkDivMod(t, x, y, fromBig(x), fromBig(y)) })
	forDisguises(func(x, y *big.Int, a, b api.Int) { checkDivMod(t, x, y, a, b) })
}

func TestDivModExamples(t *testing.T) {
	for _, c := range [][4]int64{{-7, 2, -4, 1}, {7, -2, -4, -1}, {7, 2, 3, 1}, {-7, -2, 3, -1}, {-8, 2, -4, 0}, {8, -2, -4, 0}, {0, -5, 0, 0}, {5, 9, 0, 5}, {-5, 9, -1, 4}, {5, -9, -1, -4}, {-5, -9, 0, -5}} {
		q, r, e := integer.DivMod(integer.FromInt64(c[0]), integer.FromInt64(c[1]))
		checkInt(t, q, big.NewInt(c[2]), "quotient", c)
		checkInt(t, r, big.NewInt(c[3]), "remainder", c)
		if e != api.OK {
			t.Errorf("DivMod of %v: error %d", c, e)
		}
	}
}

// Numbers whose first guesses of quotient digits are too large.
func TestDivModGuesses(t *testing.T) {
	for _, c := range [][2][]uint32{
		{{0, 0, 0x80000000, 0x7fffffff}, {1, 0, 0x80000000}},
		{{3, 0, 0x80000000}, {1, 0, 0x20000000}},
		{{0, 0xfffffffe, 0x80000000}, {0xffffffff, 0x80000000}},
		{{0xffffffff, 0xffffffff, 0xfffffffe, 0x7fffffff}, {0, 0xffffffff, 0x80000000}},
		{{0, 0xfffffffe, 0x80000000}, {0, 0xffffffff, 0x80000000}},
		{{5, 0xfffffffe, 0x80000000, 0, 0x80000000}, {0xffffffff, 0xffffffff, 0x80000000}},
		{{0xffffffff, 0xffffffff, 0xffffffff}, {0xffffffff, 0xffffffff}},
		{{0, 0, 1}, {0xffffffff, 1}},
	} {
		for _, neg := range []bool{false, true} {
			a, b := api.Int{Digits: c[0]}, api.Int{Neg: neg, Digits: c[1]}
			checkDivMod(t, toBig(a), toBig(b), a, b)
		}
	}
}

// Dividends next to multiples of the divisor, of many lengths.
func TestDivModLong(t *testing.T) {
	random := rand.New(rand.NewSource(5))
	for range 5000 {
		y, q := randomInt(random, 1+random.Intn(8)), randomInt(random, 1+random.Intn(8))
		x := new(big.Int).Mul(y, q)
		x.Add(x, big.NewInt(int64(random.Intn(3)-1)))
		checkDivMod(t, x, y, fromBig(x), fromBig(y))
	}
	for range 200 {
		x, y := randomInt(random, random.Intn(200)), randomInt(random, random.Intn(100))
		checkDivMod(t, x, y, fromBig(x), fromBig(y))
	}
}
