package sparse_test

import (
	"fmt"
	"math/big"
	"math/rand"
	"testing"

	"pairing/api"
)

// The tests compare with lists of fractions of math/big, one for each index.

func toBig(a api.Int) *big.Int {
	x := new(big.Int)
	for i := len(a.Digits) - 1; i >= 0; i-- {
		x.Lsh(x, 32)
		x.Add(x, big.NewInt(int64(a.Digits[i])))
	}
	if a.Neg {
		x.Neg(x)
	}
	return x
}

func fromBig(x *big.Int) api.Int {
	a := api.Int{Neg: x.Sign() < 0}
	for rest := new(big.Int).Abs(x); rest.Sign() > 0; rest.Rsh(rest, 32) {
		a.Digits = append(a.Digits, uint32(rest.Uint64()))
	}
	return a
}

// rat returns the value of a text like "-2/3" or "1e20".
func rat(s string) *big.Rat {
	x, ok := new(big.Rat).SetString(s)
	if !ok {
		panic("not a fraction: " + s)
	}
	return x
}

func rats(l ...string) []*big.Rat {
	var values []*big.Rat
	for _, s := range l {
		values = append(values, rat(s))
	}
	return values
}

func zeros(n int) []*big.Rat {
	l := make([]*big.Rat, n)
	for i := range l {
		l[i] = new(big.Rat)
	}
	return l
}

// frac returns the canonical fraction.
func frac(x *big.Rat) api.Frac {
	return api.Frac{Num: fromBig(x.Num()), Den: fromBig(x.Denom())}
}

const disguises = 6

// disguise returns the argument with the number form of those that denote x:
// number 0 is canonical, the others are not reduced, have a negative
// denominator, leading zero digits, a negative zero or the denominator 0.
func disguise(x *big.Rat, form int) api.Frac {
	form %= disguises
	factor := big.NewInt([]int64{1, -1, 6, -35, -1 << 32, 1<<62 - 1}[form])
	f := api.Frac{Num: fromBig(new(big.Int).Mul(x.Num(), factor)), Den: fromBig(new(big.Int).Mul(x.Denom(), factor))}
	if form >= 2 {
		f.Num.Digits = append(f.Num.Digits, 0)
		f.Den.Digits = append(f.Den.Digits, 0, 0)
	}
	if x.Sign() == 0 {
		f.Num.Neg = form%2 == 1
		switch form {
		case 3:
			f = api.Frac{}
		case 4:
			f = api.Frac{Num: fromBig(big.NewInt(-7)), Den: api.Int{Neg: true, Digits: []uint32{0}}}
		}
	}
	return f
}

// vector returns a vector of the values that are not 0, each in another disguise.
func vector(values []*big.Rat, form int) api.Vector {
	var v api.Vector
	for i, x := range values {
		if x.Sign() != 0 {
			v = append(v, api.Entry{Index: i, Value: disguise(x, form+i)})
		}
	}
	return v
}

// vec returns a vector of indexes and integers, alternately.
func vec(l ...int) api.Vector {
	var v api.Vector
	for i := 0; i < len(l); i += 2 {
		v = append(v, api.Entry{Index: l[i], Value: frac(big.NewRat(int64(l[i+1]), 1))})
	}
	return v
}

func matrix(columns [][]*big.Rat, form int) []api.Vector {
	var m []api.Vector
	for k, values := range columns {
		m = append(m, vector(values, form+k))
	}
	return m
}

// randomValues returns n fractions, of which many are 0, many small, and some
// have several digits.
func randomValues(random *rand.Rand, n int) []*big.Rat {
	l := zeros(n)
	zero := random.Intn(4)
	for i := range l {
		switch kind := random.Intn(8); {
		case kind < 2*zero:
		case kind < 7:
			l[i] = big.NewRat(int64(random.Intn(9)-4), int64(1+random.Intn(4)))
		default:
			l[i] = new(big.Rat).SetFrac(big.NewInt(random.Int63()-1<<62), big.NewInt(1+random.Int63()))
			l[i].Mul(l[i], l[i])
		}
	}
	return l
}

func randomColumns(random *rand.Rand, rows, n int) [][]*big.Rat {
	var columns [][]*big.Rat
	for range n {
		columns = append(columns, randomValues(random, rows))
	}
	return columns
}

func isCanonical(a api.Int) bool {
	n := len(a.Digits)
	return n == 0 && !a.Neg || n > 0 && a.Digits[n-1] != 0
}

// describe returns the start of what is printed of l: a matrix can be very large.
func describe(l ...any) string {
	s := fmt.Sprint(l...)
	return s[:min(len(s), 1000)]
}

// checkFrac reports a result that is not canonical (R9) or has another value. A
// big.Rat is always reduced.
func checkFrac(t *testing.T, got api.Frac, want *big.Rat, call string, arguments ...any) {
	t.Helper()
	if !isCanonical(got.Num) || !isCanonical(got.Den) || toBig(got.Num).Cmp(want.Num()) != 0 || toBig(got.Den).Cmp(want.Denom()) != 0 {
		t.Fatalf("%s of %s: %v, want %v", call, describe(arguments...), got, want)
	}
}

// checkVector reports a result that is not valid or not canonical, or that
// denotes other values.
func checkVector(t *testing.T, got api.Vector, want []*big.Rat, call string, arguments ...any) {
	t.Helper()
	next := 0
	for i, x := range want {
		if x.Sign() == 0 {
			continue
		}
		if next == len(got) || got[next].Index != i {
			t.Fatalf("%s of %s: %s, want %v at %d", call, describe(arguments...), describe(got), x, i)
		}
		checkFrac(t, got[next].Value, x, call, arguments...)
		next++
	}
	if next != len(got) {
		t.Fatalf("%s of %s: %s, want %d entries", call, describe(arguments...), describe(got), next)
	}
}

func checkList(t *testing.T, got []api.Frac, want []*big.Rat, call string, arguments ...any) {
	t.Helper()
	if len(got) != len(want) {
		t.Fatalf("%s of %s: %d elements, want %d", call, describe(arguments...), len(got), len(want))
	}
	for i, f := range got {
		checkFrac(t, f, want[i], call, arguments...)
	}
}

func checkMatrix(t *testing.T, got []api.Vector, want [][]*big.Rat, call string, arguments ...any) {
	t.Helper()
	if len(got) != len(want) {
		t.Fatalf("%s of %s: %d vectors, want %d", call, describe(arguments...), len(got), len(want))
	}
	for i, v := range got {
		checkVector(t, v, want[i], call, arguments...)
	}
}

func checkOK(t *testing.T, e api.Errno, call string, arguments ...any) {
	t.Helper()
	if e != api.OK {
		t.Fatalf("%s of %s: error %d", call, describe(arguments...), e)
	}
}

// checkError reports another error, or a result beside it (R4); length is that
// of the result.
func checkError(t *testing.T, length int, got, want api.Errno, call string, arguments ...any) {
	t.Helper()
	if got != want {
		t.Errorf("%s of %s: error %d, want %d", call, describe(arguments...), got, want)
	}
	if length != 0 {
		t.Errorf("%s of %s: an error comes with a result", call, describe(arguments...))
	}
}

// size is 0 for the zero value only.
func size(f api.Frac) int {
	n := len(f.Num.Digits) + len(f.Den.Digits)
	if f.Num.Neg || f.Den.Neg {
		n++
	}
	return n
}
