package basis_test

import (
	"fmt"
	"math/rand"
	"strings"
	"testing"

	"pairing/api"
	"pairing/basis"
	"pairing/integer"
	"pairing/rational"
	"pairing/sparse"
)

// The tests compute with the packages rational and sparse, and compare texts.

// frac returns the fraction of a text like "-2/3".
func frac(s string) api.Frac {
	f, e := rational.Parse(s)
	if e != api.OK {
		panic("not a fraction: " + s)
	}
	return f
}

// vector returns a vector of all its values, as in "1 0 -2/3".
func vector(s string) api.Vector {
	var l []api.Frac
	for _, word := range strings.Fields(s) {
		l = append(l, frac(word))
	}
	v, _ := sparse.FromDense(l)
	return v
}

// matrix returns the columns of a square matrix of rows, as in "2 1; 0 1".
func matrix(s string) []api.Vector {
	var rows []api.Vector
	for _, row := range strings.Split(s, ";") {
		rows = append(rows, vector(row))
	}
	columns, _ := sparse.Transpose(rows, len(rows))
	return columns
}

func identity(n int) []api.Vector {
	var m []api.Vector
	for k := range n {
		m = append(m, unit(k))
	}
	return m
}

func unit(k int) api.Vector {
	return api.Vector{{Index: k, Value: frac("1")}}
}

const disguises = 5

// disguise returns the form with this number of those that denote f: number 0 is
// canonical, the others are not reduced, have a negative denominator, leading
// zero digits, a negative zero or the denominator 0.
func disguise(f api.Frac, form int) api.Frac {
	form %= disguises
	factor := integer.FromInt64([]int64{1, -1, 6, -35, 1<<62 - 1}[form])
	f = api.Frac{Num: integer.Mul(f.Num, factor), Den: integer.Mul(f.Den, factor)}
	if form >= 2 {
		f.Num.Digits = append(f.Num.Digits, 0)
		f.Den.Digits = append(f.Den.Digits, 0, 0)
	}
	if rational.Sign(f) == 0 {
		f.Num.Neg = form%2 == 1
		if form == 4 {
			f.Den = api.Int{Neg: true, Digits: []uint32{0}}
		}
	}
	return f
}

// disguised returns a vector with the values of v, each in another form.
func disguised(v api.Vector, form int) api.Vector {
	var l api.Vector
	for i, entry := range v {
		l = append(l, api.Entry{Index: entry.Index, Value: disguise(entry.Value, form+i)})
	}
	return l
}

func disguisedColumns(m []api.Vector, form int) []api.Vector {
	var l []api.Vector
	for k, v := range m {
		l = append(l, disguised(v, form+k))
	}
	return l
}

// randomVector returns a vector of which about zeros of ten values are 0, most
// are small, and some have several digits.
func randomVector(random *rand.Rand, n, zeros int) api.Vector {
	l := make([]api.Frac, n)
	for i := range l {
		if random.Intn(10) < zeros {
			continue
		}
		l[i], _ = rational.FromInts(int64(random.Intn(9)-4), int64(1+random.Intn(3)))
		if random.Intn(20) == 0 {
			large, _ := rational.FromInts(random.Int63()-1<<62, 1+random.Int63())
			l[i] = rational.Mul(large, large)
		}
	}
	v, _ := sparse.FromDense(l)
	return v
}

func randomMatrix(random *rand.Rand, n, zeros int) []api.Vector {
	var m []api.Vector
	for range n {
		m = append(m, randomVector(random, n, zeros))
	}
	return m
}

// determinant returns the determinant of a matrix, by elimination of its columns.
func determinant(m []api.Vector) api.Frac {
	n := len(m)
	d := frac("1")
	rest := append([]api.Vector(nil), m...)
	for i := range n {
		k := i
		for k < n && rational.Sign(sparse.At(rest[k], i)) == 0 {
			k++
		}
		if k == n {
			return frac("0")
		}
		if k != i {
			rest[i], rest[k] = rest[k], rest[i]
			d = rational.Negate(d)
		}
		pivot := sparse.At(rest[i], i)
		d = rational.Mul(d, pivot)
		for j := i + 1; j < n; j++ {
			multiple, _ := rational.Div(sparse.At(rest[j], i), pivot)
			rest[j], _ = sparse.AddScaled(rest[j], rest[i], rational.Negate(multiple), n)
		}
	}
	return d
}

func isRegular(m []api.Vector) bool {
	return rational.Sign(determinant(m)) != 0
}

// text returns the entries of a vector, as in "0:1 2:-2/3".
func text(v api.Vector) string {
	var l []string
	for _, entry := range v {
		l = append(l, fmt.Sprint(entry.Index, ":", rational.Format(entry.Value)))
	}
	return strings.Join(l, " ")
}

func texts(m []api.Vector) string {
	var l []string
	for _, v := range m {
		l = append(l, text(v))
	}
	return describe("[" + strings.Join(l, "; ") + "]")
}

// describe returns the start of what is printed: a matrix can be very large.
func describe(s string) string {
	return s[:min(len(s), 1000)]
}

func isCanonical(f api.Frac) bool {
	for _, a := range []api.Int{f.Num, f.Den} {
		n := len(a.Digits)
		if n == 0 && a.Neg || n > 0 && a.Digits[n-1] == 0 {
			return false
		}
	}
	return integer.Sign(f.Den) > 0 && integer.Format(integer.GCD(f.Num, f.Den)) == "1"
}

// newBasis returns the basis of a regular matrix.
func newBasis(t *testing.T, m []api.Vector) *basis.Basis {
	t.Helper()
	b, e := basis.New(len(m), m)
	if e != api.OK || b == nil {
		t.Fatalf("New of %s: %v, error %d", texts(m), b, e)
	}
	return b
}

// checkFrac reports a result that is not canonical (R9) or has another value.
func checkFrac(t *testing.T, got, want api.Frac, call string) {
	t.Helper()
	if !isCanonical(got) || rational.Compare(got, want) != 0 {
		t.Fatalf("%s: %v, want %s", describe(call), got, describe(rational.Format(want)))
	}
}

// checkVector reports a result that is not valid or not canonical, or that is
// another vector.
func checkVector(t *testing.T, got, want api.Vector, n int, call string) {
	t.Helper()
	checkValid(t, got, n, call)
	if text(got) != text(want) {
		t.Fatalf("%s: %s, want %s", describe(call), describe(text(got)), describe(text(want)))
	}
}

func checkValid(t *testing.T, got api.Vector, n int, call string) {
	t.Helper()
	if e := sparse.Validate(got, n); e != api.OK {
		t.Fatalf("%s: %s is not valid, error %d", describe(call), describe(text(got)), e)
	}
	for _, entry := range got {
		if !isCanonical(entry.Value) {
			t.Fatalf("%s: %v is not canonical", describe(call), entry)
		}
	}
}

func checkOK(t *testing.T, e api.Errno, call string) {
	t.Helper()
	if e != api.OK {
		t.Fatalf("%s: error %d", describe(call), e)
	}
}

// checkError reports another error, or a result beside it (R4).
func checkError(t *testing.T, v api.Vector, got, want api.Errno, call string) {
	t.Helper()
	if got != want || len(v) != 0 {
		t.Errorf("%s: %v, error %d, want %d", describe(call), v, got, want)
	}
}

// checkBasis reports a basis whose matrix is not m: it asks for everything.
func checkBasis(t *testing.T, b *basis.Basis, m []api.Vector) {
	t.Helper()
	n := len(m)
	if b.Size() != n {
		t.Fatalf("Size: %d, want %d", b.Size(), n)
	}
	for k, want := range m {
		column, e := b.Column(k)
		checkOK(t, e, "Column")
		checkVector(t, column, want, n, "Column")
		checkSolutions(t, b, m, unit(k))
	}
	checkSolutions(t, b, m, nil)
	checkFrac(t, b.Determinant(), determinant(m), "Determinant of "+texts(m))
	checkFactors(t, b.Factors(), m)
}
