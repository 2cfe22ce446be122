package rational

import (
	"pairing/api"
	"pairing/integer"
)

// The functions of this file need no reduced fraction. With the denominator 0,
// DivMod returns zero values, and so do they.

func Floor(a api.Frac) api.Int {
	return quotient(a.Num, a.Den)
}

func Ceil(a api.Frac) api.Int {
	return integer.Negate(quotient(integer.Negate(a.Num), a.Den))
}

func Round(a api.Frac) api.Int {
	floor, rest, _ := integer.DivMod(a.Num, a.Den)
	order := integer.Compare(integer.Abs(integer.Add(rest, rest)), integer.Abs(a.Den))
	if order > 0 || order == 0 && isOdd(floor) {
		return integer.Add(floor, integer.FromInt64(1))
	}
	return floor
}

func isOdd(a api.Int) bool {
	return len(a.Digits) > 0 && a.Digits[0]&1 == 1
}
