package basis_test

import (
	"fmt"
	"strings"
	"testing"

	"pairing/api"
	"pairing/basis"
	"pairing/sparse"
)

// R2, R3 and R5

// withSpare returns a copy of m with spare capacity in the list, in each vector
// and in each number.
func withSpare(m []api.Vector) []api.Vector {
	var list []api.Vector
	for _, v := range m {
		var c api.Vector
		for _, entry := range v {
			c = append(c, entry)
		}
		list = append(list, append(c, vector("6 5")...)[:len(v)])
	}
	list = append(list, vector("7"), vector("8"))[:len(m)]
	for _, digits := range digitsOf(list) {
		*digits = append(append([]uint32(nil), *digits...), 0xaaaaaaaa, 0xbbbbbbbb)[:len(*digits)]
	}
	return list
}

// digitsOf returns all lists of digits of m, also those of spare capacity.
func digitsOf(m []api.Vector) []*[]uint32 {
	var l []*[]uint32
	for _, v := range m[:cap(m)] {
		v = v[:cap(v)]
		for i := range v {
			l = append(l, &v[i].Value.Num.Digits, &v[i].Value.Den.Digits)
		}
	}
	return l
}

// contents describes all that is in the memory of m.
func contents(m []api.Vector) string {
	var l []string
	for _, v := range m[:cap(m)] {
		l = append(l, fmt.Sprint(len(v), v[:cap(v)]))
	}
	for _, digits := range digitsOf(m) {
		l = append(l, fmt.Sprint(len(*digits), (*digits)[:cap(*digits)]))
	}
	return strings.Join(l, " ")
}

// overwrite changes all that is in the memory of m.
func overwrite(m []api.Vector) {
	for _, digits := range digitsOf(m) {
		all := (*digits)[:cap(*digits)]
		for i := range all {
			all[i] = 0x12345678
		}
	}
	for _, v := range m[:cap(m)] {
		clear(v[:cap(v)])
	}
	clear(m[:cap(m)])
}

func TestArguments(t *testing.T) {
	plain := matrix("1 2 3; 0 5 6; 7/2 8 100000000000000000000")
	changed := matrix("1 2 -1/3; 0 5 0; 7/2 8 100000000000000000001")
	for form := range disguises {
		m := withSpare(disguisedColumns(plain, form))
		v := withSpare(disguisedColumns(changed[2:], form))
		mBefore, vBefore := contents(m), contents(v)
		b := newBasis(t, m)
		b.Solve(m[0])
		b.SolveTransposed(m[0])
		b.Solve(v[0])
		b.SolveTransposed(v[0])
		checkReplaceError(t, b, 2, m[0], api.ErrSingular)
		checkOK(t, b.Replace(2, v[0]), "Replace")
		if contents(m) != mBefore || contents(v) != vBefore {
			t.Fatalf("form %d: an argument was changed", form)
		}
		overwrite(m)
		overwrite(v)
		checkBasis(t, b, changed)
	}
}

// The same memory in several columns, and in several bases.
func TestSharedArguments(t *testing.T) {
	m := matrix("1 2; 3 4")
	shared := matrix("1 2; 3 4")
	first, second := newBasis(t, shared), newBasis(t, shared)
	checkOK(t, first.Replace(1, shared[0][1:]), "Replace")
	checkOK(t, second.Replace(0, shared[0][:1]), "Replace")
	overwrite(shared)
	checkBasis(t, first, []api.Vector{m[0], m[0][1:]})
	checkBasis(t, second, []api.Vector{m[0][:1], m[1]})
	checkOK(t, first.Replace(0, vector("9 9")), "Replace")
	checkBasis(t, second, []api.Vector{m[0][:1], m[1]})
}

// results is everything that a basis answers.
type results struct {
	vectors []api.Vector
	value   api.Frac
	lists   [2][]int
}

func ask(b *basis.Basis) results {
	var r results
	for k := range b.Size() {
		column, _ := b.Column(k)
		x, _ := b.Solve(unit(k))
		y, _ := b.SolveTransposed(unit(k))
		r.vectors = append(r.vectors, column, x, y)
	}
	f := b.Factors()
	r.vectors = append(append(r.vectors, f.Lower...), f.Upper...)
	r.value = b.Determinant()
	r.lists = [2][]int{f.Rows, f.Cols}
	return r
}

func (r results) String() string {
	return fmt.Sprint(r.vectors, r.value, r.lists)
}

// fill writes another number into each piece of memory of r, and reports whether
// all of them are still there in the end.
func (r results) fill() bool {
	var digits [][]uint32
	for _, d := range append(digitsOf(r.vectors), &r.value.Num.Digits, &r.value.Den.Digits) {
		digits = append(digits, *d)
	}
	return areApart(digits, func(number int) uint32 { return uint32(number) }) &&
		areApart(r.lists[:], func(number int) int { return number }) &&
		areApart(r.vectors, func(number int) api.Entry { return api.Entry{Index: number} })
}

func areApart[L ~[]T, T any](lists []L, mark func(number int) T) bool {
	for number, l := range lists {
		for i := range l[:cap(l)] {
			l[:cap(l)][i] = mark(number)
		}
	}
	for number, l := range lists {
		for _, x := range l[:cap(l)] {
			if fmt.Sprint(x) != fmt.Sprint(mark(number)) {
				return false
			}
		}
	}
	return true
}

func TestResults(t *testing.T) {
	m := matrix("0 2 3 0; 4 0 6 1/2; 7 -8 100000000000000000000 0; 0 0 2/3 1")
	b := newBasis(t, m)
	for step := range 12 {
		checkResults(t, b)
		checkBasis(t, b, m)
		k := step % 4
		m[k], _ = sparse.AddScaled(m[k], m[(k+1)%4], frac("-1/2"), 4)
		checkOK(t, b.Replace(k, m[k]), "Replace")
	}
}

func checkResults(t *testing.T, b *basis.Basis) {
	t.Helper()
	first := ask(b)
	want := first.String()
	if !first.fill() {
		t.Error("two results share memory")
	}
	if got := ask(b).String(); got != want {
		t.Errorf("the results change when the caller changes them: %s, then %s", describe(want), describe(got))
	}
}

// Equal histories give equal results, and failed calls change none of them.
func TestEqualHistories(t *testing.T) {
	m := matrix("1 2 3 0; 4 5 6 0; 7 8 10 1; 0 0 2 1/3")
	first, second := newBasis(t, m), newBasis(t, disguisedColumns(m, 3))
	for step := range 20 {
		k := step * 3 % 4
		checkReplaceError(t, second, k, m[(k+1)%4], api.ErrSingular)
		checkReplaceError(t, second, k, vector("0 0 0 0 1"), api.ErrRange)
		second.Solve(m[k])
		second.SolveTransposed(m[k])
		second.Factors()
		m[k], _ = sparse.AddScaled(m[k], m[(k+2)%4], frac("3"), 4)
		checkOK(t, first.Replace(k, m[k]), "Replace")
		checkOK(t, second.Replace(k, disguised(m[k], step)), "Replace")
		if got, want := ask(second).String(), ask(first).String(); got != want {
			t.Fatalf("step %d: %s and %s", step, describe(want), describe(got))
		}
	}
}
