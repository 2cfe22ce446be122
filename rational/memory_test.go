package rational_test

import (
	"slices"
	"testing"

	"pairing/api"
	"pairing/integer"
	"pairing/rational"
)

// R2 and R3

// calls returns functions that collect the numbers in the results of each call.
func calls() map[string]func(a, b api.Frac) []api.Int {
	type call = func(a, b api.Frac) []api.Int
	parts := func(f api.Frac) []api.Int { return []api.Int{f.Num, f.Den} }
	one := func(f func(a api.Frac) api.Frac) call {
		return func(a, b api.Frac) []api.Int { return parts(f(a)) }
	}
	two := func(f func(a, b api.Frac) api.Frac) call {
		return func(a, b api.Frac) []api.Int { return parts(f(a, b)) }
	}
	failing := func(f func(a, b api.Frac) (api.Frac, api.Errno)) call {
		return func(a, b api.Frac) []api.Int {
			value, _ := f(a, b)
			return parts(value)
		}
	}
	whole := func(f func(a api.Frac) api.Int) call {
		return func(a, b api.Frac) []api.Int { return []api.Int{f(a)} }
	}
	return map[string]call{
		"New":      failing(func(a, b api.Frac) (api.Frac, api.Errno) { return rational.New(a.Num, b.Num) }),
		"New same": failing(func(a, b api.Frac) (api.Frac, api.Errno) { return rational.New(a.Num, a.Num) }),
		"FromInt":  one(func(a api.Frac) api.Frac { return rational.FromInt(a.Num) }),
		"Negate":   one(rational.Negate),
		"Abs":      one(rational.Abs),
		"Add":      two(rational.Add),
		"Sub":      two(rational.Sub),
		"Mul":      two(rational.Mul),
		"Div":      failing(rational.Div),
		"Sum1":     one(func(a api.Frac) api.Frac { return rational.Sum([]api.Frac{a}) }),
		"Sum3":     two(func(a, b api.Frac) api.Frac { return rational.Sum([]api.Frac{a, b, a}) }),
		"Floor":    whole(rational.Floor),
		"Ceil":     whole(rational.Ceil),
		"Round":    whole(rational.Round),
		"Simplest": failing(rational.Simplest),
		"others": func(a, b api.Frac) []api.Int {
			rational.Compare(a, b)
			rational.Sign(a)
			rational.Format(a)
			rational.Decimal(a, 7)
			f, _ := rational.Parse("-0.50")
			return append(parts(f), parts(rational.Sum(nil))...)
		},
	}
}

// withSpare returns a fraction whose numbers have leading zeros and lie in one
// piece of memory with spare capacity, and that memory.
func withSpare(f api.Frac, zeros int) (api.Frac, []uint32) {
	memory := append([]uint32{}, f.Num.Digits...)
	memory = append(memory, make([]uint32, zeros)...)
	n := len(memory)
	memory = append(memory, f.Den.Digits...)
	memory = append(memory, make([]uint32, zeros)...)
	d := len(memory)
	memory = append(memory, 0xaaaaaaaa, 0xbbbbbbbb, 0xcccccccc)
	return api.Frac{Num: api.Int{Neg: f.Num.Neg, Digits: memory[:n]}, Den: api.Int{Neg: f.Den.Neg, Digits: memory[n:d]}}, memory
}

func values(l []api.Int) []string {
	var s []string
	for _, a := range l {
		s = append(s, integer.Format(a))
	}
	return s
}

func overwrite(d []uint32) {
	for i := range d[:cap(d)] {
		d[:cap(d)][i] = 0x12345678
	}
}

func checkMemory(t *testing.T, name string, call func(a, b api.Frac) []api.Int, x, y api.Frac, zeros int) {
	t.Helper()
	a, memoryA := withSpare(x, zeros)
	b, memoryB := withSpare(y, zeros)
	savedA, savedB := slices.Clone(memoryA), slices.Clone(memoryB)
	results := call(a, b)
	want := values(results)
	for i := range results {
		overwrite(results[i].Digits)
		if !slices.Equal(values(results[i+1:]), want[i+1:]) {
			t.Errorf("%s of %v, %v: the numbers of a result share memory", name, x, y)
		}
	}
	if !slices.Equal(memoryA, savedA) || !slices.Equal(memoryB, savedB) {
		t.Fatalf("%s of %v, %v: an argument was changed, or shares memory with a result", name, x, y)
	}
	again := call(a, b)
	if !slices.Equal(values(again), want) {
		t.Errorf("%s of %v, %v: %v, then %v", name, x, y, want, values(again))
	}
	overwrite(memoryA)
	overwrite(memoryB)
	if !slices.Equal(values(again), want) {
		t.Errorf("%s of %v, %v: a result shares memory with an argument", name, x, y)
	}
}

func TestMemory(t *testing.T) {
	var l []api.Frac
	for _, s := range []string{"0", "1", "-2/3", "7/6", "10000000000000000000000000", "-0.0000000000000000000000001", "123456789012345678901234567890/7"} {
		f, factor := mustParse(t, s), integer.FromInt64(-6)
		l = append(l, f, api.Frac{Num: integer.Mul(f.Num, factor), Den: integer.Mul(f.Den, factor)})
	}
	l = append(l, api.Frac{}, api.Frac{Num: integer.FromInt64(5)}, api.Frac{Num: l[8].Num})
	for name, call := range calls() {
		for _, x := range l {
			for _, y := range l {
				for zeros := range 3 {
					checkMemory(t, name, call, x, y, zeros)
				}
			}
		}
	}
}

// Sum neither changes nor keeps the list itself.
func TestSumList(t *testing.T) {
	texts := []string{"1/2", "-50000000000000000000000000000", "3", "5/7"}
	var memory []api.Frac
	for _, s := range texts {
		memory = append(memory, mustParse(t, s))
	}
	rational.Sum(memory[:2])
	for i, f := range memory {
		if s := rational.Format(f); s != texts[i] {
			t.Errorf("element %d of the list is now %s", i, s)
		}
	}
}

// The same fraction, with the same memory, as both arguments.
func TestSameArgument(t *testing.T) {
	for _, x := range samples() {
		for _, a := range disguises(x) {
			checkArithmetic(t, x, x, a, a)
			f, e := rational.Simplest(a, a)
			checkOK(t, e, "Simplest", a)
			checkFrac(t, f, x, "Simplest", a)
		}
	}
}
