package rational_test

import (
	"math"
	"math/big"
	"math/rand"
	"testing"

	"pairing/api"
	"pairing/integer"
	"pairing/rational"
)

// The tests compare with math/big. Package integer, which has tests of its own,
// translates the numbers.

func toBig(a api.Int) *big.Int {
	x, _ := new(big.Int).SetString(integer.Format(a), 10)
	return x
}

func fromBig(x *big.Int) api.Int {
	a, e := integer.Parse(x.String())
	if e != api.OK {
		panic("too long for a test: " + x.String())
	}
	return a
}

func fromRat(x *big.Rat) api.Frac {
	return api.Frac{Num: fromBig(x.Num()), Den: fromBig(x.Denom())}
}

// rat returns the value of a text like "-2/3" or "1e20".
func rat(s string) *big.Rat {
	x, ok := new(big.Rat).SetString(s)
	if !ok {
		panic("not a fraction: " + s)
	}
	return x
}

func isCanonical(a api.Int) bool {
	n := len(a.Digits)
	return n == 0 && !a.Neg || n > 0 && a.Digits[n-1] != 0
}

func checkInt(t *testing.T, got api.Int, want *big.Int, call string, arguments ...any) {
	t.Helper()
	if !isCanonical(got) || toBig(got).Cmp(want) != 0 {
		t.Errorf("%s of %v: %v, want %v", call, arguments, got, want)
	}
}

// checkFrac reports a result that is not canonical (R9) or has another value. A
// big.Rat is always reduced.
func checkFrac(t *testing.T, got api.Frac, want *big.Rat, call string, arguments ...any) {
	t.Helper()
	if !isCanonical(got.Num) || !isCanonical(got.Den) || toBig(got.Num).Cmp(want.Num()) != 0 || toBig(got.Den).Cmp(want.Denom()) != 0 {
		t.Errorf("%s of %v: %v, want %v", call, arguments, got, want)
	}
}

func checkOK(t *testing.T, e api.Errno, call string, arguments ...any) {
	t.Helper()
	if e != api.OK {
		t.Errorf("%s of %v: error %d", call, arguments, e)
	}
}

// checkError reports another error, and a result beside it that is not the zero
// value (R4).
func checkError(t *testing.T, f api.Frac, got, want api.Errno, call string, arguments ...any) {
	t.Helper()
	if got != want {
		t.Errorf("%s of %v: error %d, want %d", call, arguments, got, want)
	}
	if f.Num.Neg || f.Den.Neg || len(f.Num.Digits) > 0 || len(f.Den.Digits) > 0 {
		t.Errorf("%s of %v: an error comes with %v", call, arguments, f)
	}
}

// disguiseInt returns arguments that denote x: canonical, with leading zero
// digits, and as a negative zero.
func disguiseInt(x *big.Int) []api.Int {
	plain, long := fromBig(x), fromBig(x)
	long.Digits = append(long.Digits, 0, 0)
	l := []api.Int{plain, long}
	if x.Sign() == 0 {
		l = append(l, api.Int{Neg: true}, api.Int{Neg: true, Digits: []uint32{0}})
	}
	return l
}

// disguises returns arguments that denote x: canonical, not reduced, with a
// negative denominator, with leading zeros, and with the denominator 0.
func disguises(x *big.Rat) []api.Frac {
	var l []api.Frac
	for _, factor := range []string{"1", "-1", "6", "-35", "-4294967296", "340282366920938463463374607431768211457"} {
		k := rat(factor).Num()
		num, den := new(big.Int).Mul(x.Num(), k), new(big.Int).Mul(x.Denom(), k)
		plain := api.Frac{Num: fromBig(num), Den: fromBig(den)}
		long := api.Frac{Num: fromBig(num), Den: fromBig(den)}
		long.Num.Digits = append(long.Num.Digits, 0)
		long.Den.Digits = append(long.Den.Digits, 0, 0)
		l = append(l, plain, long)
	}
	if x.Sign() != 0 {
		return l
	}
	zeros := disguiseInt(new(big.Int))
	for _, n := range []string{"0", "7", "-7", "1e30"} {
		for _, zero := range zeros {
			l = append(l, api.Frac{Num: fromBig(rat(n).Num()), Den: zero})
		}
	}
	for _, zero := range zeros {
		l = append(l, api.Frac{Num: zero, Den: integer.FromInt64(-5)}, api.Frac{Num: zero})
	}
	return l
}

// randomInt returns a number of at most n digits, many of which are extreme.
func randomInt(random *rand.Rand, n int) *big.Int {
	extreme := []uint32{0, 1, 2, 0x7fffffff, 0x80000000, 0xfffffffe, 0xffffffff}
	a := api.Int{Neg: random.Intn(2) == 1}
	for range n {
		d := random.Uint32()
		if random.Intn(2) == 1 {
			d = extreme[random.Intn(len(extreme))]
		}
		a.Digits = append(a.Digits, d)
	}
	return toBig(a)
}

// randomRat returns a fraction with at most n digits above and below.
func randomRat(random *rand.Rand, n int) *big.Rat {
	den := randomInt(random, 1+random.Intn(n))
	if den.Sign() == 0 {
		den.SetInt64(1)
	}
	return new(big.Rat).SetFrac(randomInt(random, random.Intn(n+1)), den)
}

// edges returns integers next to the limits of machine words.
func edges() []*big.Int {
	var l []*big.Int
	for _, bits := range []uint{31, 32, 62, 63, 64} {
		power := new(big.Int).Lsh(big.NewInt(1), bits)
		for d := int64(-1); d <= 1; d++ {
			x := new(big.Int).Add(power, big.NewInt(d))
			l = append(l, x, new(big.Int).Neg(x))
		}
	}
	return l
}

// samples returns small fractions, fractions of edges, and random ones.
func samples() []*big.Rat {
	var l []*big.Rat
	for d := int64(1); d <= 4; d++ {
		for n := int64(-7); n <= 7; n++ {
			l = append(l, big.NewRat(n, d))
		}
	}
	for i, x := range edges() {
		l = append(l, new(big.Rat).SetInt(x), new(big.Rat).SetFrac(big.NewInt(int64(i-9)), x))
	}
	l = append(l, big.NewRat(math.MaxInt32, math.MaxInt32-1), big.NewRat(-math.MaxInt32+1, math.MaxInt32), big.NewRat(math.MaxInt64, math.MaxInt64-1), rat("1e40"), rat("-1e-40"))
	random := rand.New(rand.NewSource(1))
	for n := range 24 {
		l = append(l, randomRat(random, n/4+1))
	}
	return l
}

func forPairs(f func(x, y *big.Rat)) {
	l := samples()
	for _, x := range l {
		for _, y := range l {
			f(x, y)
		}
	}
}

// forDisguises calls f with all arguments that stand for a few pairs.
func forDisguises(f func(x, y *big.Rat, a, b api.Frac)) {
	few := []string{"0", "1", "-2/3", "5/6", "-7", "1e25"}
	for _, s := range few {
		for _, u := range few {
			x, y := rat(s), rat(u)
			for _, a := range disguises(x) {
				for _, b := range disguises(y) {
					f(x, y, a, b)
				}
			}
		}
	}
}

func mustParse(t *testing.T, s string) api.Frac {
	t.Helper()
	f, e := rational.Parse(s)
	checkOK(t, e, "Parse", s)
	return f
}
