package sparse

import (
	"pairing/api"
	"pairing/rational"
)

func Dot(a, b api.Vector, n int) (api.Frac, api.Errno) {
	if e := validateBoth(a, b, n); e != api.OK {
		return api.Frac{}, e
	}
	var products []product
	i, j := 0, 0
	for i < len(a) && j < len(b) {
		switch {
		case a[i].Index < b[j].Index:
			i++
		case a[i].Index > b[j].Index:
			j++
		default:
			products = append(products, product{&a[i].Value, &b[j].Value})
			i++
			j++
		}
	}
	return sumProducts(products), api.OK
}

func AddScaled(a, b api.Vector, k api.Frac, n int) (api.Vector, api.Errno) {
	if e := validateBoth(a, b, n); e != api.OK {
		return nil, e
	}
	var sum api.Vector
	i, j := 0, 0
	for i < len(a) || j < len(b) {
		switch {
		case j == len(b) || i < len(a) && a[i].Index < b[j].Index:
			sum = appendEntry(sum, a[i].Index, canonical(a[i].Value))
			i++
		case i == len(a) || a[i].Index > b[j].Index:
			sum = appendEntry(sum, b[j].Index, rational.Mul(k, b[j].Value))
			j++
		default:
			sum = appendEntry(sum, a[i].Index, rational.Add(a[i].Value, rational.Mul(k, b[j].Value)))
			i++
			j++
		}
	}
	return sum, api.OK
}

func Scale(v api.Vector, k api.Frac, n int) (api.Vector, api.Errno) {
	return AddScaled(nil, v, k, n)
}

func validateBoth(a, b api.Vector, n int) api.Errno {
	if e := Validate(a, n); e != api.OK {
		return e
	}
	return Validate(b, n)
}

// product stands for the product of two fractions, which are read only. It is
// much smaller than its value.
type product struct{ left, right *api.Frac }

// sumProducts returns the sum in one piece: Sum is faster than many Adds.
func sumProducts(l []product) api.Frac {
	values := make([]api.Frac, len(l))
	for i, p := range l {
		values[i] = rational.Mul(*p.left, *p.right)
	}
	return rational.Sum(values)
}
