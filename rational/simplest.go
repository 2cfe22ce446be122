package rational

import (
	"pairing/api"
	"pairing/integer"
)

func Simplest(low, high api.Frac) (api.Frac, api.Errno) {
	if Compare(low, high) > 0 {
		return api.Frac{}, api.ErrOrder
	}
	switch {
	case Sign(low) > 0:
		return fromTerms(commonTerms(upright(low), upright(high))), api.OK
	case Sign(high) < 0:
		return Negate(fromTerms(commonTerms(Negate(high), Negate(low)))), api.OK
	}
	return canonical(api.Frac{}), api.OK
}

// commonTerms returns the continued fraction of the simplest fraction from low
// to high, for positive fractions with positive denominators. If there is an
// integer between them, the smallest one is the simplest. Otherwise both have
// the same floor, and beyond it lies the reciprocal of the simplest fraction
// between the reciprocals of what is left of them.
func commonTerms(low, high api.Frac) []api.Int {
	var terms []api.Int
	for {
		least := Ceil(low)
		if integer.Compare(integer.Mul(least, high.Den), high.Num) <= 0 {
			return append(terms, least)
		}
		floor, lowRest, _ := integer.DivMod(low.Num, low.Den)
		_, highRest, _ := integer.DivMod(high.Num, high.Den)
		terms = append(terms, floor)
		low, high = api.Frac{Num: high.Den, Den: highRest}, api.Frac{Num: low.Den, Den: lowRest}
	}
}

// fromTerms returns the value of a continued fraction, which comes out reduced.
func fromTerms(terms []api.Int) api.Frac {
	num, den := integer.FromInt64(1), api.Int{}
	for i := len(terms) - 1; i >= 0; i-- {
		num, den = integer.Add(integer.Mul(terms[i], num), den), num
	}
	return api.Frac{Num: num, Den: den}
}
