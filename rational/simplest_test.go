package rational_test

import (
	"math/big"
	"math/rand"
	"testing"

	"pairing/api"
	"pairing/rational"
)

// P2.6

// search is the definition: the first denominator with a numerator from low to
// high, and of its numerators the one with the smallest absolute value.
func search(low, high *big.Rat) *big.Rat {
	for d := int64(1); ; d++ {
		for n := int64(0); n <= 100; n++ {
			for _, x := range []*big.Rat{big.NewRat(n, d), big.NewRat(-n, d)} {
				if low.Cmp(x) <= 0 && x.Cmp(high) <= 0 {
					return x
				}
			}
		}
	}
}

func TestSimplestSmall(t *testing.T) {
	var l []*big.Rat
	for d := int64(1); d <= 7; d++ {
		for n := int64(-9); n <= 9; n++ {
			l = append(l, big.NewRat(n, d))
		}
	}
	for _, low := range l {
		for _, high := range l {
			f, e := rational.Simplest(fromRat(low), fromRat(high))
			if low.Cmp(high) > 0 {
				checkError(t, f, e, api.ErrOrder, "Simplest", low, high)
				continue
			}
			checkOK(t, e, "Simplest", low, high)
			checkFrac(t, f, search(low, high), "Simplest", low, high)
		}
	}
}

func TestSimplestExamples(t *testing.T) {
	for _, c := range [][3]string{{"1/3", "1/2", "1/2"}, {"5/7", "3/4", "3/4"}, {"-1/2", "1/3", "0"}, {"0", "5", "0"}, {"-5", "0", "0"}, {"0", "0", "0"}, {"3", "9", "3"}, {"-9", "-3", "-3"}, {"-1/2", "-1/3", "-1/2"}, {"5/2", "7/2", "3"}, {"31/100", "32/100", "5/16"}, {"2/7", "2/7", "2/7"}, {"314/100", "315/100", "22/7"}, {"3.1415926", "3.1415927", "86953/27678"}, {"-3.1415927", "-3.1415926", "-86953/27678"}, {"5/3", "7/4", "5/3"}, {"1e-40", "1e-39", "1e-39"}, {"1e39", "1e40", "1e39"}} {
		f, e := rational.Simplest(fromRat(rat(c[0])), fromRat(rat(c[1])))
		checkOK(t, e, "Simplest", c)
		checkFrac(t, f, rat(c[2]), "Simplest", c[0], c[1])
	}
}

func TestSimplestDisguises(t *testing.T) {
	for _, c := range [][3]string{{"1/3", "1/2", "1/2"}, {"-3/4", "-5/7", "-3/4"}, {"-1/2", "0", "0"}, {"0", "7", "0"}, {"7", "8", "7"}, {"13/5", "13/5", "13/5"}} {
		for _, low := range disguises(rat(c[0])) {
			for _, high := range disguises(rat(c[1])) {
				f, e := rational.Simplest(low, high)
				checkOK(t, e, "Simplest", low, high)
				checkFrac(t, f, rat(c[2]), "Simplest", low, high)
				if c[0] != c[1] {
					f, e = rational.Simplest(high, low)
					checkError(t, f, e, api.ErrOrder, "Simplest", high, low)
				}
			}
		}
	}
}

// parents returns the neighbours of a positive fraction x in the Stern-Brocot
// tree; every fraction between them, other than x, has a larger denominator. The
// upper one is nil if it is infinite.
func parents(x *big.Rat) (lower, upper *big.Rat) {
	one := big.NewInt(1)
	if x.IsInt() {
		return new(big.Rat).Sub(x, big.NewRat(1, 1)), nil
	}
	den := new(big.Int).ModInverse(x.Num(), x.Denom())
	num := new(big.Int).Mul(x.Num(), den)
	num.Sub(num, one).Quo(num, x.Denom())
	lower = new(big.Rat).SetFrac(num, den)
	upper = new(big.Rat).SetFrac(new(big.Int).Sub(x.Num(), num), new(big.Int).Sub(x.Denom(), den))
	return lower, upper
}

// checkSimplest works for positive low and high.
func checkSimplest(t *testing.T, low, high *big.Rat) {
	t.Helper()
	f, e := rational.Simplest(fromRat(low), fromRat(high))
	checkOK(t, e, "Simplest", low, high)
	x := rat(rational.Format(f))
	checkFrac(t, f, x, "Simplest", low, high)
	lower, upper := parents(x)
	if x.Cmp(low) < 0 || x.Cmp(high) > 0 || lower.Cmp(low) >= 0 || upper != nil && upper.Cmp(high) <= 0 {
		t.Errorf("Simplest of %v, %v: %v", low, high, x)
	}
	f, e = rational.Simplest(fromRat(new(big.Rat).Neg(high)), fromRat(new(big.Rat).Neg(low)))
	checkOK(t, e, "Simplest", low, high)
	checkFrac(t, f, x.Neg(x), "Simplest of the negatives", low, high)
}

func TestSimplestLong(t *testing.T) {
	random := rand.New(rand.NewSource(3))
	for n := range 1500 {
		low := randomRat(random, 1+n%10)
		width := randomRat(random, 1+n%10)
		if n%2 == 0 {
			width.Mul(width, rat("1e-60"))
		}
		low.Abs(low)
		if low.Sign() > 0 {
			checkSimplest(t, low, low)
			checkSimplest(t, low, new(big.Rat).Add(low, width.Abs(width)))
		}
	}
}

// Quotients of Fibonacci numbers have the longest continued fractions.
func TestSimplestDeep(t *testing.T) {
	x, y := big.NewInt(1), big.NewInt(1)
	for range 1000 {
		x, y = y, x.Add(x, y)
	}
	low := new(big.Rat).SetFrac(x, y)
	checkSimplest(t, low, low)
	checkSimplest(t, low, new(big.Rat).Add(low, rat("1e-150")))
}
