package sparse_test

import (
	"math/big"
	"slices"
	"strconv"
	"testing"

	"pairing/api"
	"pairing/sparse"
)

// R2 and R3

// arguments are what the calls take: a, b and x for any dimension from 3 on,
// three columns of it, and a list.
type arguments struct {
	a, b, x api.Vector
	k       api.Frac
	columns []api.Vector
	list    []api.Frac
}

// result holds what a call returns; each call fills one field.
type result struct {
	value   api.Frac
	list    []api.Frac
	vector  api.Vector
	vectors []api.Vector
}

func calls() map[string]func(g arguments) result {
	withVector := func(v api.Vector, _ api.Errno) result { return result{vector: v} }
	withValue := func(f api.Frac, _ api.Errno) result { return result{value: f} }
	return map[string]func(g arguments) result{
		"Validate": func(g arguments) result {
			sparse.Validate(g.a, 3)
			sparse.Validate(g.a, 2)
			return result{}
		},
		"FromDense": func(g arguments) result { return withVector(sparse.FromDense(g.list)) },
		"ToDense": func(g arguments) result {
			l, _ := sparse.ToDense(g.a, 5)
			return result{list: l}
		},
		"At":        func(g arguments) result { return result{value: sparse.At(g.a, 2)} },
		"At none":   func(g arguments) result { return result{value: sparse.At(g.a, 7)} },
		"Dot":       func(g arguments) result { return withValue(sparse.Dot(g.a, g.b, 3)) },
		"Dot same":  func(g arguments) result { return withValue(sparse.Dot(g.a, g.a, 3)) },
		"AddScaled": func(g arguments) result { return withVector(sparse.AddScaled(g.a, g.b, g.k, 3)) },
		"AddScaled same": func(g arguments) result {
			return withVector(sparse.AddScaled(g.a, g.a, g.a[0].Value, 3))
		},
		"AddScaled by 0": func(g arguments) result {
			return withVector(sparse.AddScaled(g.a, g.b, api.Frac{}, 3))
		},
		"AddScaled by 1":       func(g arguments) result { return withVector(sparse.AddScaled(nil, g.a, frac(rat("1")), 3)) },
		"Scale":                func(g arguments) result { return withVector(sparse.Scale(g.a, g.k, 3)) },
		"Scale by 1":           func(g arguments) result { return withVector(sparse.Scale(g.a, frac(rat("1")), 3)) },
		"Multiply":             func(g arguments) result { return withVector(sparse.Multiply(g.columns, g.x, 3)) },
		"Multiply by a column": func(g arguments) result { return withVector(sparse.Multiply(g.columns, g.columns[0], 3)) },
		"Multiply one column": func(g arguments) result {
			return withVector(sparse.Multiply(g.columns, vec(1, 1), 3))
		},
		"Transpose": func(g arguments) result {
			l, _ := sparse.Transpose(g.columns, 3)
			return result{vectors: l}
		},
	}
}

// newArguments returns equal arguments, in new memory, in each call.
func newArguments(form int) arguments {
	a, b := rats("2/3", "0", "-1e25"), rats("-5", "7/2", "1/6")
	columns := matrix([][]*big.Rat{a, b, rats("0", "1", "0")}, form)
	list := fracs(rats("1/2", "0", "-1e25", "0", "3"), form)
	g := arguments{
		a:       withSpareEntries(vector(a, form)),
		b:       withSpareEntries(vector(b, form+1)),
		x:       withSpareEntries(vector(rats("2", "-1/3", "1e-25"), form)),
		k:       disguise(rat("-7/3"), form),
		columns: append(columns, vec(9, 9), vec(8, 8))[:3],
		list:    append(list, frac(rat("77")), frac(rat("88")))[:5],
	}
	for i := range g.columns {
		g.columns[i] = withSpareEntries(g.columns[i])
	}
	for _, d := range g.digits() {
		*d = append(*d, 0xaaaaaaaa, 0xbbbbbbbb)[:len(*d)]
	}
	return g
}

func withSpareEntries(v api.Vector) api.Vector {
	return append(v, vec(66, 6, 55, 5)...)[:len(v)]
}

// vectors returns all vectors of g, with their spare capacity.
func (g *arguments) vectors() []api.Vector {
	all := []api.Vector{g.a, g.b, g.x}
	all = append(all, g.columns[:cap(g.columns)]...)
	for i, v := range all {
		all[i] = v[:cap(v)]
	}
	return all
}

// digits returns all lists of digits of g.
func (g *arguments) digits() []*[]uint32 {
	l := []*[]uint32{&g.k.Num.Digits, &g.k.Den.Digits}
	for _, v := range g.vectors() {
		for i := range v {
			l = append(l, &v[i].Value.Num.Digits, &v[i].Value.Den.Digits)
		}
	}
	list := g.list[:cap(g.list)]
	for i := range list {
		l = append(l, &list[i].Num.Digits, &list[i].Den.Digits)
	}
	return l
}

// contents returns all numbers that are in the memory of g.
func (g *arguments) contents() []int {
	var l []int
	for _, v := range g.vectors() {
		for _, entry := range v {
			l = append(l, entry.Index, sign(entry.Value.Num), sign(entry.Value.Den))
		}
	}
	for _, f := range append([]api.Frac{g.k}, g.list[:cap(g.list)]...) {
		l = append(l, sign(f.Num), sign(f.Den))
	}
	for _, v := range g.columns {
		l = append(l, len(v))
	}
	for _, d := range g.digits() {
		l = append(l, len(*d))
		for _, x := range (*d)[:cap(*d)] {
			l = append(l, int(x))
		}
	}
	return l
}

func sign(a api.Int) int {
	if a.Neg {
		return -1
	}
	return 1
}

// overwrite changes all memory of g.
func (g *arguments) overwrite() {
	for _, d := range g.digits() {
		all := (*d)[:cap(*d)]
		for i := range all {
			all[i] = 0x12345678
		}
	}
	for _, v := range g.vectors() {
		clear(v)
	}
	clear(g.columns[:cap(g.columns)])
	clear(g.list[:cap(g.list)])
}

// all returns the vectors of r.
func (r *result) all() []api.Vector {
	return append([]api.Vector{r.vector}, r.vectors...)
}

// fracs returns the fractions of r.
func (r *result) fracs() []api.Frac {
	l := append([]api.Frac{r.value}, r.list...)
	for _, v := range r.all() {
		for _, entry := range v {
			l = append(l, entry.Value)
		}
	}
	return l
}

// texts returns the indexes and fractions of r.
func (r *result) texts() []string {
	var l []string
	for _, f := range r.fracs() {
		l = append(l, toBig(f.Num).String()+"/"+toBig(f.Den).String())
	}
	for _, v := range r.all() {
		l = append(l, "a vector")
		for _, entry := range v {
			l = append(l, strconv.Itoa(entry.Index))
		}
	}
	return l
}

// fill writes another number into each piece of memory of r, and reports whether
// all of them are still there in the end.
func (r *result) fill() bool {
	var lists [][]uint32
	for _, f := range r.fracs() {
		lists = append(lists, f.Num.Digits, f.Den.Digits)
	}
	for i, d := range lists {
		for k := range d[:cap(d)] {
			d[:cap(d)][k] = uint32(i)
		}
	}
	for i, v := range r.all() {
		for k := range v[:cap(v)] {
			v[:cap(v)][k] = api.Entry{Index: i}
		}
	}
	apart := true
	for i, d := range lists {
		for _, x := range d[:cap(d)] {
			apart = apart && x == uint32(i)
		}
	}
	for i, v := range r.all() {
		for _, entry := range v[:cap(v)] {
			apart = apart && entry.Index == i
		}
	}
	return apart
}

func TestMemory(t *testing.T) {
	for name, call := range calls() {
		for form := range disguises {
			checkMemory(t, name, call, form)
		}
	}
}

func checkMemory(t *testing.T, name string, call func(g arguments) result, form int) {
	t.Helper()
	g := newArguments(form)
	want := g.contents()
	first := call(g)
	texts := first.texts()
	if !slices.Equal(g.contents(), want) {
		t.Fatalf("%s, form %d: an argument was changed", name, form)
	}
	if !first.fill() {
		t.Errorf("%s, form %d: two parts of the result share memory", name, form)
	}
	if !slices.Equal(g.contents(), want) {
		t.Fatalf("%s, form %d: the result shares memory with an argument", name, form)
	}
	second := call(g)
	if !slices.Equal(second.texts(), texts) {
		t.Errorf("%s, form %d: %v, then %v", name, form, texts, second.texts())
	}
	g.overwrite()
	if !slices.Equal(second.texts(), texts) {
		t.Errorf("%s, form %d: the result changes with an argument", name, form)
	}
}
