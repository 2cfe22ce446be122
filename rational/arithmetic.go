package rational

import (
	"pairing/api"
	"pairing/integer"
)

func Negate(a api.Frac) api.Frac {
	a = canonical(a)
	return api.Frac{Num: integer.Negate(a.Num), Den: a.Den}
}

func Abs(a api.Frac) api.Frac {
	a = canonical(a)
	return api.Frac{Num: integer.Abs(a.Num), Den: a.Den}
}

func Add(a, b api.Frac) api.Frac {
	if sum, ok := addWords(a, b); ok {
		return sum
	}
	return addCanonical(canonical(a), canonical(b))
}

func Sub(a, b api.Frac) api.Frac {
	b.Num.Neg = !b.Num.Neg
	return Add(a, b)
}

func Mul(a, b api.Frac) api.Frac {
	// If a denominator is 0, so is their product, and both denote 0.
	return canonical(api.Frac{Num: integer.Mul(a.Num, b.Num), Den: integer.Mul(a.Den, b.Den)})
}

func Div(a, b api.Frac) (api.Frac, api.Errno) {
	if Sign(b) == 0 {
		return api.Frac{}, api.ErrZero
	}
	return Mul(a, api.Frac{Num: b.Den, Den: b.Num}), api.OK
}

// Sum does not reduce the sum so far again in each step, as Add would.
func Sum(l []api.Frac) api.Frac {
	sum := canonical(api.Frac{})
	for _, f := range l {
		if next, ok := addWords(sum, f); ok {
			sum = next
		} else {
			sum = addCanonical(sum, canonical(f))
		}
	}
	return sum
}

// addCanonical adds canonical fractions. Only divisors of both denominators can
// divide the numerator and the denominator of the sum: this keeps numbers small.
func addCanonical(a, b api.Frac) api.Frac {
	g := integer.GCD(a.Den, b.Den)
	left := quotient(a.Den, g)
	num := integer.Add(integer.Mul(a.Num, quotient(b.Den, g)), integer.Mul(b.Num, left))
	h := integer.GCD(num, g)
	return api.Frac{Num: quotient(num, h), Den: integer.Mul(left, quotient(b.Den, h))}
}
