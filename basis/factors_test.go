package basis_test

import (
	"fmt"
	"math/rand"
	"testing"

	"pairing/api"
	"pairing/rational"
	"pairing/sparse"
)

// P4.5

func TestDeterminant(t *testing.T) {
	for _, c := range []struct{ m, want string }{
		{"2 1; 0 1", "2"}, {"7", "7"}, {"-2/3", "-2/3"}, {"0 2; 3 0", "-6"}, {"1 2; 3 4", "-2"}, {"1/2 1/3; 1/4 1/5", "1/60"},
		{"0 0 1; 1 0 0; 0 1 0", "1"}, {"0 0 1; 0 1 0; 1 0 0", "-1"}, {"1 2 3; 4 5 6; 7 8 10", "-3"},
		{"2 0 0; 5 3 0; 7 9 1/6", "1"}, {"100000000000000000001 1; 100000000000000000000 1", "1"},
	} {
		m := matrix(c.m)
		for form := range disguises {
			b := newBasis(t, disguisedColumns(m, form))
			checkFrac(t, b.Determinant(), frac(c.want), "Determinant of "+c.m)
		}
	}
	checkFrac(t, newBasis(t, nil).Determinant(), frac("1"), "Determinant of an empty matrix")
	checkFrac(t, newBasis(t, identity(64)).Determinant(), frac("1"), "Determinant of the identity")
}

// permutations returns all permutations of 0 to n - 1 whose sign is s, and those
// whose sign is -s.
func permutations(n int) (even, odd [][]int) {
	if n == 0 {
		return [][]int{nil}, nil
	}
	e, o := permutations(n - 1)
	for place := range n {
		for _, p := range e {
			even = append(even, insert(p, n-1, place))
		}
		for _, p := range o {
			odd = append(odd, insert(p, n-1, place))
		}
		e, o = o, e
	}
	if n%2 == 0 {
		even, odd = odd, even
	}
	return even, odd
}

func insert(p []int, x, place int) []int {
	l := append([]int(nil), p[:place]...)
	return append(append(l, x), p[place:]...)
}

func TestDeterminantPermutations(t *testing.T) {
	for n := range 6 {
		even, odd := permutations(n)
		for want, l := range map[string][][]int{"1": even, "-1": odd} {
			for _, p := range l {
				var m []api.Vector
				for _, row := range p {
					m = append(m, unit(row))
				}
				b := newBasis(t, m)
				checkFrac(t, b.Determinant(), frac(want), fmt.Sprint("Determinant of ", p))
				checkFactors(t, b.Factors(), m)
				checkSolutions(t, b, m, randomVector(rand.New(rand.NewSource(7)), n, 0))
			}
		}
	}
}

func TestDeterminantReplaced(t *testing.T) {
	m := matrix("2 1 0; 0 1 4; 1 0 1/3")
	b := newBasis(t, m)
	want := frac("14/3")
	for step := range 40 {
		checkFrac(t, b.Determinant(), want, "Determinant")
		k := step % 3
		other, _ := sparse.AddScaled(nil, m[(k+1)%3], frac("5/2"), 3)
		m[k], _ = sparse.AddScaled(other, m[k], frac("-2/3"), 3)
		checkOK(t, b.Replace(k, m[k]), "Replace")
		want = rational.Mul(want, frac("-2/3"))
		if step%4 == 0 {
			checkReplaceError(t, b, k, m[(k+1)%3], api.ErrSingular)
		}
	}
}

// P4.6

// checkFactors checks a factorization by the words of the promise.
func checkFactors(t *testing.T, f api.Factors, m []api.Vector) {
	t.Helper()
	n := len(m)
	if len(f.Lower) != n || len(f.Upper) != n || !isPermutation(f.Rows, n) || !isPermutation(f.Cols, n) {
		t.Fatalf("Factors of %s: %s", texts(m), describe(fmt.Sprint(f)))
	}
	for k := range n {
		checkValid(t, f.Lower[k], n, "Factors")
		checkValid(t, f.Upper[k], n, "Factors")
		lower, upper := f.Lower[k], f.Upper[k]
		if len(lower) == 0 || lower[0].Index != k || rational.Format(lower[0].Value) != "1" {
			t.Fatalf("Factors of %s: column %d of Lower is %s", texts(m), k, describe(text(lower)))
		}
		if len(upper) == 0 || upper[len(upper)-1].Index != k {
			t.Fatalf("Factors of %s: column %d of Upper is %s", texts(m), k, describe(text(upper)))
		}
		product, _ := sparse.Multiply(f.Lower, upper, n)
		for i, row := range f.Rows {
			if rational.Compare(sparse.At(product, i), sparse.At(m[f.Cols[k]], row)) != 0 {
				t.Fatalf("Factors of %s: wrong product in row %d and column %d", texts(m), i, k)
			}
		}
	}
}

func isPermutation(l []int, n int) bool {
	seen := make([]bool, n)
	for _, x := range l {
		if x < 0 || x >= n || seen[x] {
			return false
		}
		seen[x] = true
	}
	return len(l) == n
}

func TestFactors(t *testing.T) {
	for _, s := range []string{
		"7", "-2/3", "2 1; 0 1", "0 2; 3 0", "1 2; 3 4", "0 0 1; 1 0 0; 0 1 0", "1 2 3; 4 5 6; 7 8 10",
		"0 1 1; 1 0 1; 1 1 0", "1 1 1 1; 1 2 3 4; 1 4 9 16; 1 8 27 64",
	} {
		m := matrix(s)
		for form := range disguises {
			checkFactors(t, newBasis(t, disguisedColumns(m, form)).Factors(), m)
		}
	}
	checkFactors(t, newBasis(t, nil).Factors(), nil)
	checkFactors(t, newBasis(t, identity(64)).Factors(), identity(64))
}

// The factors are those of the current columns, however many were replaced.
func TestFactorsReplaced(t *testing.T) {
	m := matrix("1 2 3; 4 5 6; 7 8 10")
	b := newBasis(t, m)
	for step := range 30 {
		k := step * 2 % 3
		m[k], _ = sparse.AddScaled(m[k], m[(k+1+step%2)%3], frac("1/3"), 3)
		checkOK(t, b.Replace(k, m[k]), "Replace")
		checkFactors(t, b.Factors(), m)
		checkReplaceError(t, b, k, m[(k+1)%3], api.ErrSingular)
		checkFactors(t, b.Factors(), m)
	}
}

// With Markowitz's choice of pivots a matrix with one full row, one full column
// and a diagonal gets no new elements. Other orders fill the whole matrix.
func TestFactorsSparse(t *testing.T) {
	const n = 64
	for _, full := range []int{0, 30, n - 1} {
		m := identity(n)
		for i := range m {
			m[i][0].Value = frac("100")
			if i != full {
				m[i], _ = sparse.AddScaled(m[i], unit(full), frac("1"), n)
				m[full], _ = sparse.AddScaled(m[full], unit(i), frac("1"), n)
			}
		}
		f := newBasis(t, m).Factors()
		checkFactors(t, f, m)
		if got, want := entries(f.Lower)+entries(f.Upper), entries(m)+n; got > want {
			t.Errorf("%d entries in the factors, want %d", got, want)
		}
	}
}

func entries(m []api.Vector) int {
	count := 0
	for _, v := range m {
		count += len(v)
	}
	return count
}
