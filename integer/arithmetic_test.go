package integer_test

import (
	"math/big"
	"math/rand"
	"testing"

	"pairing/api"
	"pairing/integer"
)

// P1.3

func checkArithmetic(t *testing.T, x, y *big.Int, a, b api.Int) {
	t.Helper()
	if c := integer.Compare(a, b); c != x.Cmp(y) {
		t.Errorf("Compare of %v, %v: %d", x, y, c)
	}
	checkInt(t, integer.Add(a, b), new(big.Int).Add(x, y), "Add", a, b)
	checkInt(t, integer.Sub(a, b), new(big.Int).Sub(x, y), "Sub", a, b)
	checkInt(t, integer.Mul(a, b), new(big.Int).Mul(x, y), "Mul", a, b)
}

func TestArithmetic(t *testing.T) {
	forPairs(func(x, y *big.Int) { checkArithmetic(t, x, y, fromBig(x), fromBig(y)) })
	forDisguises(func(x, y *big.Int, a, b api.Int) { checkArithmetic(t, x, y, a, b) })
}

func TestArithmeticLong(t *testing.T) {
	random := rand.New(rand.NewSource(4))
	for range 200 {
		x, y := randomInt(random, random.Intn(200)), randomInt(random, random.Intn(200))
		checkArithmetic(t, x, y, fromBig(x), fromBig(y))
	}
}

// Carries and borrows through all digits.
func TestCarry(t *testing.T) {
	one := big.NewInt(1)
	for n := range uint(20) {
		power := new(big.Int).Lsh(one, 32*n)
		less := new(big.Int).Sub(power, one)
		a, b := fromBig(power), fromBig(less)
		checkArithmetic(t, power, one, a, fromBig(one))
		checkArithmetic(t, less, one, b, fromBig(one))
		checkArithmetic(t, power, less, a, b)
		checkArithmetic(t, less, less, b, b)
	}
}

func TestSigns(t *testing.T) {
	for _, x := range samples() {
		for _, a := range disguises(x) {
			if s := integer.Sign(a); s != x.Sign() {
				t.Errorf("Sign of %v: %d", a, s)
			}
			checkInt(t, integer.Negate(a), new(big.Int).Neg(x), "Negate", a)
			checkInt(t, integer.Abs(a), new(big.Int).Abs(x), "Abs", a)
		}
	}
}
