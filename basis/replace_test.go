package basis_test

import (
	"fmt"
	"math"
	"math/rand"
	"testing"

	"pairing/api"
	"pairing/basis"
	"pairing/sparse"
)

// P4.4

func checkReplaceError(t *testing.T, b *basis.Basis, k int, v api.Vector, want api.Errno) {
	t.Helper()
	if e := b.Replace(k, v); e != want {
		t.Errorf("Replace of %d, %s: error %d, want %d", k, describe(text(v)), e, want)
	}
}

func TestReplaceExample(t *testing.T) {
	b := newBasis(t, matrix("2 1; 0 1"))
	checkReplaceError(t, b, 1, vector("5 0"), api.ErrSingular)
	checkBasis(t, b, matrix("2 1; 0 1"))
	checkOK(t, b.Replace(1, vector("0 5")), "Replace")
	checkBasis(t, b, matrix("2 0; 0 5"))
}

func TestReplaceErrors(t *testing.T) {
	m := matrix("1 2 3; 4 5 6; 7 8 10")
	b := newBasis(t, m)
	for range 2 {
		for _, k := range []int{-1, 3, 64, math.MinInt, math.MaxInt} {
			checkReplaceError(t, b, k, unit(0), api.ErrRange)
			checkReplaceError(t, b, k, nil, api.ErrRange)
			checkReplaceError(t, b, k, vector("0 0 0 0 0 0 1"), api.ErrRange)
			for _, f := range faults() {
				checkReplaceError(t, b, k, f.v, api.ErrRange)
			}
		}
		for k := range 3 {
			for _, f := range faults() {
				checkReplaceError(t, b, k, f.v, f.want)
			}
		}
		checkBasis(t, b, m)
		// The same for a basis with a replaced column.
		m[2] = vector("1 -1 1/2")
		checkOK(t, b.Replace(2, m[2]), "Replace")
	}
	empty := newBasis(t, nil)
	for _, k := range []int{-1, 0, 1} {
		checkReplaceError(t, empty, k, nil, api.ErrRange)
	}
	checkBasis(t, empty, nil)
}

func TestReplaceSingular(t *testing.T) {
	m := matrix("1 2 3 0; 4 5 6 0; 7 8 10 1; 0 0 2 1/3")
	b := newBasis(t, m)
	for range 4 {
		for k := range m {
			var sum api.Vector
			for i, v := range m {
				if i != k {
					checkReplaceError(t, b, k, v, api.ErrSingular)
					checkReplaceError(t, b, k, disguised(v, i), api.ErrSingular)
					sum, _ = sparse.AddScaled(v, sum, frac("-3/7"), 4)
				}
			}
			checkReplaceError(t, b, k, sum, api.ErrSingular)
			checkReplaceError(t, b, k, nil, api.ErrSingular)
			checkReplaceError(t, b, k, api.Vector{}, api.ErrSingular)
			checkBasis(t, b, m)
			m[k], _ = sparse.AddScaled(sum, m[k], frac("1/1000000000000"), 4)
			checkOK(t, b.Replace(k, m[k]), "Replace")
		}
	}
	checkBasis(t, b, m)
}

// Replacing columns by themselves or their multiples.
func TestReplaceSame(t *testing.T) {
	m := matrix("0 2 0; 1 0 5; 1/2 0 7")
	b := newBasis(t, m)
	for step := range 30 {
		k := step % 3
		checkOK(t, b.Replace(k, disguised(m[k], step)), "Replace")
		checkBasis(t, b, m)
		m[k], _ = sparse.Scale(m[k], frac("-3/2"), 3)
		checkOK(t, b.Replace(k, m[k]), "Replace")
		checkBasis(t, b, m)
	}
}

// A long history, with the identity at its start and another matrix at its end.
func TestReplaceAll(t *testing.T) {
	random := rand.New(rand.NewSource(4))
	for _, n := range []int{1, 2, 8, 64} {
		b := newBasis(t, identity(n))
		m := largeMatrix(random, max(n, 2))
		if n == 1 {
			m = matrix("7")
		}
		now := identity(n)
		for missing := n; missing > 0; {
			missing = 0
			for k := range n {
				if text(now[k]) == text(m[k]) {
					continue
				}
				if e := b.Replace(k, m[k]); e == api.OK {
					now[k] = m[k]
				} else {
					// The column depends on the others now; another one makes room.
					missing++
					room, _ := sparse.AddScaled(now[k], unit(random.Intn(n)), frac("1"), n)
					if b.Replace(k, room) == api.OK {
						now[k] = room
					}
				}
			}
		}
		checkBasis(t, b, m)
	}
}

// What a basis answers depends on its columns only, not on the way to them.
func TestReplaceRandom(t *testing.T) {
	random := rand.New(rand.NewSource(5))
	for n := 1; n <= 7; n++ {
		m := identity(n)
		b := newBasis(t, m)
		singular := 0
		for step := range 120 {
			k := random.Intn(n)
			next := append([]api.Vector(nil), m...)
			next[k] = randomVector(random, n, step%10)
			want := api.OK
			if !isRegular(next) {
				want = api.ErrSingular
				singular++
			} else {
				m = next
			}
			if e := b.Replace(k, disguised(next[k], step)); e != want {
				t.Fatalf("Replace of %d with %s: error %d, want %d", k, texts(next), e, want)
			}
			checkSolutions(t, b, m, randomVector(random, n, 3))
			checkFrac(t, b.Determinant(), determinant(m), "Determinant of "+texts(m))
			if step%10 == 0 {
				checkBasis(t, b, m)
			}
		}
		checkBasis(t, b, m)
		if singular == 0 {
			t.Error("no singular matrix of size", n)
		}
	}
}

func TestReplaceLarge(t *testing.T) {
	random := rand.New(rand.NewSource(6))
	const n = 64
	m := largeMatrix(random, n)
	b := newBasis(t, m)
	for step := range 100 {
		k := random.Intn(n)
		v, _ := sparse.AddScaled(m[k], unit(random.Intn(n)), frac("3"), n)
		if b.Replace(k, v) == api.OK {
			m[k] = v
		}
		if step%10 == 9 {
			checkSolutions(t, b, m, randomVector(random, n, 5))
			checkFrac(t, b.Determinant(), determinant(m), fmt.Sprint("Determinant in step ", step))
		}
	}
	checkBasis(t, b, m)
}
