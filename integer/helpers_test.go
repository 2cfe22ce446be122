package integer_test

import (
	"math/big"
	"math/rand"
	"slices"
	"testing"

	"pairing/api"
	"pairing/integer"
)

// The tests compare with math/big, without the help of Parse and Format.

func toBig(a api.Int) *big.Int {
	x := new(big.Int)
	for _, d := range slices.Backward(a.Digits) {
		x.Lsh(x, 32)
		x.Or(x, big.NewInt(int64(d)))
	}
	if a.Neg {
		x.Neg(x)
	}
	return x
}

func fromBig(x *big.Int) api.Int {
	a := api.Int{Neg: x.Sign() < 0}
	mask := big.NewInt(0xffffffff)
	for rest := new(big.Int).Abs(x); rest.Sign() != 0; rest.Rsh(rest, 32) {
		a.Digits = append(a.Digits, uint32(new(big.Int).And(rest, mask).Uint64()))
	}
	return a
}

func bigOf(t *testing.T, s string) *big.Int {
	t.Helper()
	x, ok := new(big.Int).SetString(s, 0)
	if !ok {
		t.Fatalf("not a number: %q", s)
	}
	return x
}

// checkInt reports a result that is not canonical (R9) or has another value.
func checkInt(t *testing.T, got api.Int, want *big.Int, call string, arguments ...any) {
	t.Helper()
	n := len(got.Digits)
	if n == 0 && got.Neg || n > 0 && got.Digits[n-1] == 0 {
		t.Errorf("%s of %v is not canonical: %v", call, arguments, got)
	}
	if x := toBig(got); x.Cmp(want) != 0 {
		t.Errorf("%s of %v: %v, want %v", call, arguments, x, want)
	}
}

func checkZero(t *testing.T, got api.Int, call string) {
	t.Helper()
	if got.Neg || len(got.Digits) != 0 {
		t.Errorf("%s: an error comes with %v", call, got)
	}
}

// disguises returns arguments that denote x: canonical, with leading zero
// digits, and as a negative zero.
func disguises(x *big.Int) []api.Int {
	plain := fromBig(x)
	long := api.Int{Neg: plain.Neg, Digits: append(fromBig(x).Digits, 0, 0, 0)}
	l := []api.Int{plain, long}
	if x.Sign() == 0 {
		l = append(l, api.Int{Neg: true}, api.Int{Neg: true, Digits: []uint32{0, 0}}, api.Int{Digits: []uint32{0}})
	}
	return l
}

// randomInt returns a number of n digits, many of which are extreme.
func randomInt(random *rand.Rand, n int) *big.Int {
	extreme := []uint32{0, 1, 2, 0x7fffffff, 0x80000000, 0x80000001, 0xfffffffe, 0xffffffff}
	a := api.Int{Neg: random.Intn(2) == 1}
	for range n {
		d := random.Uint32()
		if random.Intn(2) == 1 {
			d = extreme[random.Intn(len(extreme))]
		}
		a.Digits = append(a.Digits, d)
	}
	return toBig(a)
}

// samples returns small numbers, neighbours of powers of two and of ten, and
// random numbers up to twelve digits.
func samples() []*big.Int {
	random := rand.New(rand.NewSource(1))
	var l []*big.Int
	for n := range int64(13) {
		l = append(l, big.NewInt(n), big.NewInt(-n))
	}
	one := big.NewInt(1)
	for _, bits := range []uint{31, 32, 33, 62, 63, 64, 65, 96, 128, 160} {
		power := new(big.Int).Lsh(one, bits)
		for _, x := range []*big.Int{new(big.Int).Sub(power, one), power, new(big.Int).Add(power, one)} {
			l = append(l, x, new(big.Int).Neg(x))
		}
	}
	for _, n := range []int64{9, 10, 18, 27, 40} {
		l = append(l, new(big.Int).Exp(big.NewInt(10), big.NewInt(n), nil))
	}
	for n := range 12 {
		for range 4 {
			l = append(l, randomInt(random, n+1))
		}
	}
	return l
}

func forPairs(f func(x, y *big.Int)) {
	l := samples()
	for _, x := range l {
		for _, y := range l {
			f(x, y)
		}
	}
}

// forDisguises calls f with all arguments that stand for a few pairs.
func forDisguises(f func(x, y *big.Int, a, b api.Int)) {
	few := []int64{0, 1, -1, 6, -4, 1 << 32, -1 << 40}
	for _, m := range few {
		for _, n := range few {
			x, y := big.NewInt(m), big.NewInt(n)
			for _, a := range disguises(x) {
				for _, b := range disguises(y) {
					f(x, y, a, b)
				}
			}
		}
	}
}

// floorDiv is the definition of the quotient and the remainder in P1.4.
func floorDiv(x, y *big.Int) (q, r *big.Int) {
	q, r = new(big.Int).QuoRem(x, y, new(big.Int))
	if r.Sign() != 0 && r.Sign() != y.Sign() {
		q.Sub(q, big.NewInt(1))
		r.Add(r, y)
	}
	return q, r
}

func mustParse(t *testing.T, s string) api.Int {
	t.Helper()
	a, e := integer.Parse(s)
	if e != api.OK {
		t.Fatalf("Parse(%q): error %d", s, e)
	}
	return a
}
