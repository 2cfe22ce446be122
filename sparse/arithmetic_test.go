package sparse_test

import (
	"math/big"
	"math/rand"
	"testing"

	"pairing/api"
	"pairing/sparse"
)

// P3.4

func dot(x, y []*big.Rat) *big.Rat {
	sum := new(big.Rat)
	for i := range x {
		sum.Add(sum, new(big.Rat).Mul(x[i], y[i]))
	}
	return sum
}

func addScaled(x, y []*big.Rat, k *big.Rat) []*big.Rat {
	sum := zeros(len(x))
	for i := range x {
		sum[i].Add(x[i], new(big.Rat).Mul(k, y[i]))
	}
	return sum
}

func checkProducts(t *testing.T, x, y []*big.Rat, a, b api.Vector, z *big.Rat, k api.Frac) {
	t.Helper()
	n := len(x)
	d, e := sparse.Dot(a, b, n)
	checkOK(t, e, "Dot", a, b)
	checkFrac(t, d, dot(x, y), "Dot", a, b)
	v, e := sparse.AddScaled(a, b, k, n)
	checkOK(t, e, "AddScaled", a, b, k)
	checkVector(t, v, addScaled(x, y, z), "AddScaled", a, b, k)
	v, e = sparse.Scale(b, k, n)
	checkOK(t, e, "Scale", b, k)
	checkVector(t, v, addScaled(zeros(n), y, z), "Scale", b, k)
}

// factors are values of k.
func factors() []*big.Rat {
	return rats("0", "1", "-1", "2", "-1/2", "7/3", "1e30", "-1e-30")
}

func TestProducts(t *testing.T) {
	random := rand.New(rand.NewSource(4))
	for n := range 400 {
		x, y := randomValues(random, n%16), randomValues(random, n%16)
		z := factors()[n%len(factors())]
		checkProducts(t, x, y, vector(x, n), vector(y, n/2), z, disguise(z, n))
	}
}

// All ways in which two short vectors can overlap, with the empty one.
func TestOverlaps(t *testing.T) {
	const n = 4
	values := func(set int, x string) []*big.Rat {
		l := zeros(n)
		for i := range l {
			if set>>i&1 == 1 {
				l[i].Add(rat(x), big.NewRat(int64(i), 1))
			}
		}
		return l
	}
	for s := range 1 << n {
		for u := range 1 << n {
			x, y := values(s, "5/3"), values(u, "-7/2")
			checkProducts(t, x, y, vector(x, s), vector(y, u), rat("-2/3"), disguise(rat("-2/3"), s))
		}
	}
}

// Sums that are 0 have no entry, and only these.
func TestCancellation(t *testing.T) {
	random := rand.New(rand.NewSource(5))
	for n := range 100 {
		x := randomValues(random, 9)
		for _, z := range rats("-1", "-2/3", "1e20") {
			y := zeros(9)
			for i := range y {
				if i != n%9 {
					y[i].Quo(x[i], z).Neg(y[i])
				}
			}
			checkProducts(t, x, y, vector(x, n), vector(y, n+1), z, disguise(z, n))
		}
	}
	d, e := sparse.Dot(vec(0, 2, 1, 3), vec(0, 3, 1, -2), 2)
	checkOK(t, e, "Dot")
	checkFrac(t, d, rat("0"), "Dot")
}

func TestProductForms(t *testing.T) {
	x, y := rats("1/2", "0", "-6", "1e25"), rats("-1/2", "3", "0", "1e-25")
	for _, z := range factors() {
		for form := range disguises {
			for other := range disguises {
				checkProducts(t, x, y, vector(x, form), vector(y, other), z, disguise(z, form))
			}
		}
	}
}

// The same vector, with the same memory, as both arguments.
func TestSameVector(t *testing.T) {
	x := rats("1/2", "0", "-6", "1e25")
	a := vector(x, 2)
	for _, z := range factors() {
		checkProducts(t, x, x, a, a, z, frac(z))
	}
	for _, entry := range a {
		checkProducts(t, x, x, a, a, x[entry.Index], entry.Value)
	}
}

func TestProductExamples(t *testing.T) {
	a, b := rats("1", "0", "0", "2", "0", "0"), rats("0", "0", "0", "1/2", "0", "1")
	d, e := sparse.Dot(vector(a, 0), vector(b, 0), 6)
	checkOK(t, e, "Dot")
	checkFrac(t, d, rat("1"), "Dot")
	v, e := sparse.AddScaled(vector(a, 0), vector(b, 0), frac(rat("-4")), 6)
	checkOK(t, e, "AddScaled")
	checkVector(t, v, rats("1", "0", "0", "0", "0", "-4"), "AddScaled")
	v, e = sparse.Scale(vector(a, 0), frac(rat("-3/2")), 6)
	checkOK(t, e, "Scale")
	checkVector(t, v, rats("-3/2", "0", "0", "-3", "0", "0"), "Scale")
}

func TestProductSizes(t *testing.T) {
	for _, n := range []int{0, 1, 4096} {
		checkProducts(t, zeros(n), zeros(n), nil, api.Vector{}, rat("2"), frac(rat("2")))
	}
	x, y := zeros(4096), zeros(4096)
	for i := range x {
		x[i].SetInt64(int64(i))
		y[i].SetInt64(int64(4095 - i))
	}
	checkProducts(t, x, y, vector(x, 0), vector(y, 3), rat("-1"), frac(rat("-1")))
}

func TestProductFaults(t *testing.T) {
	k := frac(rat("2"))
	for _, f := range faults() {
		checkPairFault(t, f.v, nil, f.n, f.want)
		checkPairFault(t, nil, f.v, f.n, f.want)
		checkPairFault(t, f.v, f.v, f.n, f.want)
		v, e := sparse.Scale(f.v, k, f.n)
		checkError(t, len(v), e, f.want, "Scale", f.v, f.n)
		v, e = sparse.Scale(f.v, api.Frac{}, f.n)
		checkError(t, len(v), e, f.want, "Scale by 0", f.v, f.n)
		v, e = sparse.AddScaled(nil, f.v, api.Frac{}, f.n)
		checkError(t, len(v), e, f.want, "AddScaled by 0", f.v, f.n)
	}
	// The first vector comes before the second one.
	bad := map[api.Errno]api.Vector{api.ErrRange: vec(3, 1), api.ErrOrder: vec(1, 1, 0, 1), api.ErrZero: vec(0, 0)}
	for first, a := range bad {
		for _, b := range bad {
			checkPairFault(t, a, b, 3, first)
		}
	}
}

func checkPairFault(t *testing.T, a, b api.Vector, n int, want api.Errno) {
	t.Helper()
	d, e := sparse.Dot(a, b, n)
	checkError(t, size(d), e, want, "Dot", a, b, n)
	v, e := sparse.AddScaled(a, b, frac(rat("2")), n)
	checkError(t, len(v), e, want, "AddScaled", a, b, n)
}
