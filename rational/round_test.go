package rational_test

import (
	"math/big"
	"testing"

	"pairing/api"
	"pairing/integer"
	"pairing/rational"
)

// P2.5

// floorOf is the definition of Floor: the largest integer that is at most x.
func floorOf(x *big.Rat) *big.Int {
	n := new(big.Int).Quo(x.Num(), x.Denom())
	for new(big.Rat).SetInt(n).Cmp(x) > 0 {
		n.Sub(n, big.NewInt(1))
	}
	return n
}

// roundOf takes the nearer neighbour of x, or the even one.
func roundOf(x *big.Rat) *big.Int {
	low := floorOf(x)
	high := new(big.Int).Add(low, big.NewInt(1))
	below := new(big.Rat).Sub(x, new(big.Rat).SetInt(low))
	above := new(big.Rat).Sub(new(big.Rat).SetInt(high), x)
	c := below.Cmp(above)
	if c < 0 || c == 0 && low.Bit(0) == 0 {
		return low
	}
	return high
}

func checkRounding(t *testing.T, x *big.Rat, a api.Frac) {
	t.Helper()
	ceil := floorOf(new(big.Rat).Neg(x))
	checkInt(t, rational.Floor(a), floorOf(x), "Floor", a)
	checkInt(t, rational.Ceil(a), ceil.Neg(ceil), "Ceil", a)
	checkInt(t, rational.Round(a), roundOf(x), "Round", a)
}

func TestRounding(t *testing.T) {
	for _, x := range samples() {
		for _, a := range disguises(x) {
			checkRounding(t, x, a)
		}
	}
	for d := int64(1); d <= 12; d++ {
		for n := int64(-60); n <= 60; n++ {
			x := big.NewRat(n, d)
			checkRounding(t, x, fromRat(x))
		}
	}
}

func TestRoundingExamples(t *testing.T) {
	for _, c := range [][5]int64{{7, 2, 3, 4, 4}, {5, 2, 2, 3, 2}, {3, 2, 1, 2, 2}, {1, 2, 0, 1, 0}, {-1, 2, -1, 0, 0}, {-3, 2, -2, -1, -2}, {-5, 2, -3, -2, -2}, {-7, 2, -4, -3, -4}, {1, 3, 0, 1, 0}, {2, 3, 0, 1, 1}, {-1, 3, -1, 0, 0}, {-2, 3, -1, 0, -1}, {8, -4, -2, -2, -2}, {5, -2, -3, -2, -2}, {7, -14, -1, 0, 0}, {5, 0, 0, 0, 0}, {-5, 0, 0, 0, 0}, {0, -5, 0, 0, 0}} {
		a := api.Frac{Num: integer.FromInt64(c[0]), Den: integer.FromInt64(c[1])}
		checkInt(t, rational.Floor(a), big.NewInt(c[2]), "Floor", c)
		checkInt(t, rational.Ceil(a), big.NewInt(c[3]), "Ceil", c)
		checkInt(t, rational.Round(a), big.NewInt(c[4]), "Round", c)
	}
}

// Halves, and numbers next to them, of any size.
func TestRoundingHalves(t *testing.T) {
	for _, n := range edges() {
		for _, distance := range []string{"1/2", "-1/2", "1e-40"} {
			for _, half := range []string{"1/2", "0"} {
				x := new(big.Rat).SetInt(n)
				x.Add(x, rat(half))
				checkRounding(t, x, fromRat(x))
				x.Add(x, rat(distance))
				checkRounding(t, x, fromRat(x))
			}
		}
	}
}
