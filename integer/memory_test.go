package integer_test

import (
	"math/big"
	"slices"
	"testing"

	"pairing/api"
	"pairing/integer"
)

// R2 and R3

// calls returns functions that collect the results of each call.
func calls() map[string]func(a, b api.Int) []api.Int {
	one := func(f func(a api.Int) api.Int) func(a, b api.Int) []api.Int {
		return func(a, b api.Int) []api.Int { return []api.Int{f(a)} }
	}
	two := func(f func(a, b api.Int) api.Int) func(a, b api.Int) []api.Int {
		return func(a, b api.Int) []api.Int { return []api.Int{f(a, b)} }
	}
	power := func(n int) func(a api.Int) api.Int {
		return func(a api.Int) api.Int {
			r, _ := integer.Pow(a, n)
			return r
		}
	}
	return map[string]func(a, b api.Int) []api.Int{
		"Negate": one(integer.Negate),
		"Abs":    one(integer.Abs),
		"Add":    two(integer.Add),
		"Sub":    two(integer.Sub),
		"Mul":    two(integer.Mul),
		"GCD":    two(integer.GCD),
		"Pow0":   one(power(0)),
		"Pow1":   one(power(1)),
		"Pow3":   one(power(3)),
		"Sqrt": one(func(a api.Int) api.Int {
			r, _ := integer.Sqrt(a)
			return r
		}),
		"DivMod": func(a, b api.Int) []api.Int {
			q, r, _ := integer.DivMod(a, b)
			return []api.Int{q, r}
		},
		"ExtendedGCD": func(a, b api.Int) []api.Int {
			g, x, y := integer.ExtendedGCD(a, b)
			return []api.Int{g, x, y}
		},
		"others": func(a, b api.Int) []api.Int {
			integer.ToInt64(a)
			integer.Format(a)
			integer.Compare(a, b)
			integer.Sign(a)
			integer.BitLen(a)
			return []api.Int{integer.FromInt64(0), integer.FromInt64(1), integer.FromInt64(-1)}
		},
	}
}

// withSpare returns a number with leading zero digits and spare capacity, and
// its whole memory.
func withSpare(x *big.Int, zeros int) (api.Int, []uint32) {
	a := fromBig(x)
	n := len(a.Digits) + zeros
	memory := append(make([]uint32, 0, n+4), a.Digits...)
	memory = append(memory, make([]uint32, zeros)...)
	memory = append(memory, 0xaaaaaaaa, 0xbbbbbbbb, 0xcccccccc, 0xdddddddd)
	return api.Int{Neg: a.Neg, Digits: memory[:n]}, memory
}

func values(l []api.Int) []string {
	var s []string
	for _, a := range l {
		s = append(s, toBig(a).String())
	}
	return s
}

func overwrite(d []uint32) {
	d = d[:cap(d)]
	for i := range d {
		d[i] = 0x12345678
	}
}

func TestMemory(t *testing.T) {
	l := []string{"0", "1", "-1", "2", "-6", "0x100000000", "-0xffffffffffffffff", "0x123456789abcdef0123456789", "-0x200000000000000000000000000000000001"}
	for name, call := range calls() {
		for _, s := range l {
			for _, u := range l {
				for zeros := range 3 {
					checkMemory(t, name, call, bigOf(t, s), bigOf(t, u), zeros)
				}
			}
		}
	}
}

func checkMemory(t *testing.T, name string, call func(a, b api.Int) []api.Int, x, y *big.Int, zeros int) {
	t.Helper()
	a, memoryA := withSpare(x, zeros)
	b, memoryB := withSpare(y, zeros)
	savedA, savedB := slices.Clone(memoryA), slices.Clone(memoryB)
	results := call(a, b)
	want := values(results)
	for i := range results {
		overwrite(results[i].Digits)
		after := values(results)
		if !slices.Equal(after[i+1:], want[i+1:]) {
			t.Errorf("%s of %v, %v: the results share memory", name, x, y)
		}
	}
	if !slices.Equal(memoryA, savedA) || !slices.Equal(memoryB, savedB) {
		t.Errorf("%s of %v, %v: an argument was changed, or shares memory with a result", name, x, y)
	}
	again := call(a, b)
	if !slices.Equal(values(again), want) {
		t.Errorf("%s of %v, %v: %v, then %v", name, x, y, want, values(again))
	}
	overwrite(memoryA)
	overwrite(memoryB)
	if !slices.Equal(values(again), want) {
		t.Errorf("%s of %v, %v: a result shares memory with an argument", name, x, y)
	}
}

// The same number as both arguments.
func TestSameArgument(t *testing.T) {
	for _, x := range samples() {
		a := fromBig(x)
		checkArithmetic(t, x, x, a, a)
		checkDivMod(t, x, x, a, a)
		checkGCD(t, x, x, a, a)
		if !slices.Equal(a.Digits, fromBig(x).Digits) {
			t.Errorf("%v was changed", x)
		}
	}
}
