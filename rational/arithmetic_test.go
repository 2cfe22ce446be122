package rational_test

import (
	"math/big"
	"math/rand"
	"testing"

	"pairing/api"
	"pairing/integer"
	"pairing/rational"
)

// P2.4

func checkArithmetic(t *testing.T, x, y *big.Rat, a, b api.Frac) {
	t.Helper()
	if c := rational.Compare(a, b); c != x.Cmp(y) {
		t.Errorf("Compare of %v, %v: %d", a, b, c)
	}
	checkFrac(t, rational.Add(a, b), new(big.Rat).Add(x, y), "Add", a, b)
	checkFrac(t, rational.Sub(a, b), new(big.Rat).Sub(x, y), "Sub", a, b)
	checkFrac(t, rational.Mul(a, b), new(big.Rat).Mul(x, y), "Mul", a, b)
	quotient, e := rational.Div(a, b)
	if y.Sign() == 0 {
		checkError(t, quotient, e, api.ErrZero, "Div", a, b)
		return
	}
	checkOK(t, e, "Div", a, b)
	checkFrac(t, quotient, new(big.Rat).Quo(x, y), "Div", a, b)
}

func TestArithmetic(t *testing.T) {
	forPairs(func(x, y *big.Rat) { checkArithmetic(t, x, y, fromRat(x), fromRat(y)) })
	forDisguises(func(x, y *big.Rat, a, b api.Frac) { checkArithmetic(t, x, y, a, b) })
}

func TestArithmeticExamples(t *testing.T) {
	a, b := rat("-6/8"), rat("-5/15")
	checkFrac(t, rational.Add(fromRat(a), fromRat(b)), rat("-13/12"), "Add", a, b)
	checkFrac(t, rational.Sub(fromRat(a), fromRat(b)), rat("-5/12"), "Sub", a, b)
	checkFrac(t, rational.Mul(fromRat(a), fromRat(b)), rat("1/4"), "Mul", a, b)
	q, e := rational.Div(fromRat(a), fromRat(b))
	checkOK(t, e, "Div", a, b)
	checkFrac(t, q, rat("9/4"), "Div", a, b)
}

// Denominators with all kinds of common divisors, also of the sum.
func TestCommonDivisors(t *testing.T) {
	random := rand.New(rand.NewSource(2))
	for n := range 2000 {
		g := randomInt(random, 1+n%3)
		x, y := randomRat(random, 1+n%4), randomRat(random, 1+n%5)
		if g.Sign() != 0 {
			x.Mul(x, new(big.Rat).SetFrac(big.NewInt(1), g))
			y.Mul(y, new(big.Rat).SetFrac(big.NewInt(int64(n)), g))
		}
		checkArithmetic(t, x, y, fromRat(x), fromRat(y))
		z := new(big.Rat).Sub(y, x)
		checkArithmetic(t, x, z, fromRat(x), fromRat(z))
	}
}

// Numerators and denominators next to 2^31, where sums leave machine words.
func TestWordEdges(t *testing.T) {
	var l []api.Frac
	for d := int64(-2); d <= 2; d++ {
		for k := int64(-2); k <= 2; k++ {
			num, den := integer.FromInt64(1<<31+d), integer.FromInt64(1<<31+k)
			l = append(l, api.Frac{Num: num, Den: den}, api.Frac{Num: num, Den: integer.Negate(den)})
		}
	}
	for _, a := range l {
		for _, b := range l {
			x, y := new(big.Rat).SetFrac(toBig(a.Num), toBig(a.Den)), new(big.Rat).SetFrac(toBig(b.Num), toBig(b.Den))
			checkArithmetic(t, x, y, a, b)
		}
	}
}

func TestSigns(t *testing.T) {
	for _, x := range samples() {
		for _, a := range disguises(x) {
			if s := rational.Sign(a); s != x.Sign() {
				t.Errorf("Sign of %v: %d", a, s)
			}
			checkFrac(t, rational.Negate(a), new(big.Rat).Neg(x), "Negate", a)
			checkFrac(t, rational.Abs(a), new(big.Rat).Abs(x), "Abs", a)
		}
	}
}

func checkSum(t *testing.T, l []*big.Rat) {
	t.Helper()
	want := new(big.Rat)
	var fractions []api.Frac
	for i, x := range l {
		want.Add(want, x)
		forms := disguises(x)
		fractions = append(fractions, forms[i%len(forms)])
	}
	checkFrac(t, rational.Sum(fractions), want, "Sum", l)
}

func TestSum(t *testing.T) {
	checkFrac(t, rational.Sum(nil), rat("0"), "Sum")
	checkFrac(t, rational.Sum([]api.Frac{}), rat("0"), "Sum")
	for _, a := range disguises(rat("0")) {
		checkFrac(t, rational.Sum([]api.Frac{a}), rat("0"), "Sum", a)
		checkFrac(t, rational.Sum([]api.Frac{a, fromRat(rat("1/2")), a}), rat("1/2"), "Sum", a)
	}
	checkSum(t, []*big.Rat{rat("1/2"), rat("1/3"), rat("1/6"), rat("0")})
	l := samples()
	for n, x := range l {
		checkSum(t, []*big.Rat{x})
		checkSum(t, l[:n])
		checkSum(t, l[n:])
		checkSum(t, []*big.Rat{rat("1/3"), x, new(big.Rat).Neg(x), rat("1/6")})
	}
}

// The numbers of this sum have many hundred digits.
func TestSumLong(t *testing.T) {
	const n = 3000
	var l []api.Frac
	want := new(big.Rat)
	for d := int64(1); d <= n; d++ {
		f, _ := rational.FromInts(1, d)
		l = append(l, f)
	}
	for d := int64(1); d <= 300; d++ {
		want.Add(want, big.NewRat(1, d))
	}
	checkFrac(t, rational.Sum(l[:300]), want, "Sum", 300)
	sum := rational.Sum(l)
	for _, f := range l[300:] {
		f.Num = integer.Negate(f.Num)
		sum = rational.Sum([]api.Frac{sum, f})
	}
	checkFrac(t, sum, want, "Sum", n)
}
