package integer_test

import (
	"math/big"
	"math/rand"
	"testing"

	"pairing/api"
	"pairing/integer"
)

// P1.5

func bigGCD(x, y *big.Int) *big.Int {
	return new(big.Int).GCD(nil, nil, new(big.Int).Abs(x), new(big.Int).Abs(y))
}

// checkGCD also compares with the definition of x, which has one solution.
func checkGCD(t *testing.T, x, y *big.Int, a, b api.Int) {
	t.Helper()
	want := bigGCD(x, y)
	checkInt(t, integer.GCD(a, b), want, "GCD", a, b)
	g, fx, fy := integer.ExtendedGCD(a, b)
	checkInt(t, g, want, "ExtendedGCD", a, b)
	if y.Sign() == 0 {
		checkInt(t, fx, big.NewInt(int64(x.Sign())), "x", x, y)
		checkInt(t, fy, big.NewInt(0), "y", x, y)
		return
	}
	period := new(big.Int).Quo(new(big.Int).Abs(y), want)
	factor := toBig(fx)
	if factor.Sign() < 0 || factor.Cmp(period) >= 0 {
		t.Errorf("ExtendedGCD of %v, %v: x is %v", x, y, factor)
	}
	checkInt(t, fx, factor, "x", x, y)
	rest := new(big.Int).Sub(want, factor.Mul(factor, x))
	wantY, zero := floorDiv(rest, y)
	if zero.Sign() != 0 {
		t.Errorf("ExtendedGCD of %v, %v: x is %v", x, y, fx)
	}
	checkInt(t, fy, wantY, "y", x, y)
}

func TestGCD(t *testing.T) {
	forPairs(func(x, y *big.Int) { checkGCD(t, x, y, fromBig(x), fromBig(y)) })
	forDisguises(func(x, y *big.Int, a, b api.Int) { checkGCD(t, x, y, a, b) })
}

func TestExtendedGCDExamples(t *testing.T) {
	for _, c := range [][5]int64{{12, 18, 6, 2, -1}, {0, 0, 0, 0, 0}, {-5, 0, 5, -1, 0}, {5, 0, 5, 1, 0}, {0, -5, 5, 0, -1}, {0, 5, 5, 0, 1}, {7, 1, 1, 0, 1}, {7, -1, 1, 0, -1}, {5, 5, 5, 0, 1}, {-12, 18, 6, 1, 1}, {12, -18, 6, 2, 1}, {3, 5, 1, 2, -1}} {
		g, x, y := integer.ExtendedGCD(integer.FromInt64(c[0]), integer.FromInt64(c[1]))
		checkInt(t, g, big.NewInt(c[2]), "g", c)
		checkInt(t, x, big.NewInt(c[3]), "x", c)
		checkInt(t, y, big.NewInt(c[4]), "y", c)
		checkInt(t, integer.GCD(integer.FromInt64(c[0]), integer.FromInt64(c[1])), big.NewInt(c[2]), "GCD", c)
	}
}

func TestGCDSmall(t *testing.T) {
	for m := int64(-24); m <= 24; m++ {
		for n := int64(-24); n <= 24; n++ {
			x, y := big.NewInt(m), big.NewInt(n)
			checkGCD(t, x, y, fromBig(x), fromBig(y))
		}
	}
}

// Multiples of common factors, with quotients of all sizes.
func TestGCDCommonFactors(t *testing.T) {
	random := rand.New(rand.NewSource(6))
	for range 2000 {
		factor := randomInt(random, 1+random.Intn(6))
		x := randomInt(random, 1+random.Intn(8))
		y := randomInt(random, 1+random.Intn(8))
		if random.Intn(2) == 1 {
			y.Mul(y, x).Add(y, randomInt(random, 1))
		}
		x.Mul(x, factor)
		y.Mul(y, factor)
		checkGCD(t, x, y, fromBig(x), fromBig(y))
	}
}

// Pairs with leading bits that leave their quotients open.
func TestGCDNeighbours(t *testing.T) {
	random := rand.New(rand.NewSource(7))
	for range 1000 {
		x := randomInt(random, 3+random.Intn(6))
		for d := int64(-1); d <= 1; d++ {
			y := new(big.Int).Add(x, big.NewInt(d))
			checkGCD(t, x, y, fromBig(x), fromBig(y))
			y.Lsh(y, uint(random.Intn(100)))
			checkGCD(t, x, y, fromBig(x), fromBig(y))
		}
	}
}

// Fibonacci numbers have the most steps, all with the quotient 1; the other
// sequence has quotients next to 2^31 and 2^32.
func TestGCDSequences(t *testing.T) {
	quotients := []int64{1, 1, 1<<31 - 2, 1<<31 - 1, 1 << 31, 1<<32 - 1, 1 << 32, 1, 2}
	x, y := big.NewInt(1), big.NewInt(1)
	u, v := big.NewInt(1), big.NewInt(1)
	for i := range 1500 {
		x, y = y, x.Add(x, y)
		q := big.NewInt(quotients[i%len(quotients)])
		u, v = v, u.Add(u, q.Mul(q, v))
		if i < 200 || i%100 == 0 {
			checkGCD(t, x, y, fromBig(x), fromBig(y))
			checkGCD(t, u, v, fromBig(u), fromBig(v))
		}
	}
}
