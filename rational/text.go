package rational

import (
	"strings"

	"pairing/api"
	"pairing/integer"
)

const (
	maxText   = 400
	maxPlaces = 30
)

func Parse(s string) (api.Frac, api.Errno) {
	if len(s) > maxText {
		return api.Frac{}, api.ErrTooLarge
	}
	if num, den, ok := strings.Cut(s, "/"); ok {
		return parseQuotient(num, den)
	}
	if whole, decimals, ok := strings.Cut(s, "."); ok {
		return parseDecimal(whole, decimals)
	}
	a, e := integer.Parse(s)
	if e != api.OK {
		return api.Frac{}, e
	}
	return FromInt(a), api.OK
}

func parseQuotient(num, den string) (api.Frac, api.Errno) {
	n, numError := integer.Parse(num)
	d, denError := integer.Parse(den)
	if numError != api.OK || denError != api.OK || integer.Sign(d) <= 0 {
		return api.Frac{}, api.ErrSyntax
	}
	return New(n, d)
}

func parseDecimal(whole, decimals string) (api.Frac, api.Errno) {
	neg := strings.HasPrefix(whole, "-")
	if whole == "-0" {
		whole = "0"
	}
	n, wholeError := integer.Parse(whole)
	// With a 1 before them, decimals with leading zeros are an integer, too.
	shifted, decimalsError := integer.Parse("1" + decimals)
	if wholeError != api.OK || decimalsError != api.OK || decimals == "" {
		return api.Frac{}, api.ErrSyntax
	}
	unit, _ := integer.Parse("1" + strings.Repeat("0", len(decimals)))
	size := integer.Add(integer.Mul(integer.Abs(n), unit), integer.Sub(shifted, unit))
	return New(api.Int{Neg: neg, Digits: size.Digits}, unit)
}

func Format(f api.Frac) string {
	f = canonical(f)
	num, den := integer.Format(f.Num), integer.Format(f.Den)
	if den == "1" {
		return num
	}
	return num + "/" + den
}

func Decimal(f api.Frac, places int) (string, api.Errno) {
	if places < 0 || places > maxPlaces {
		return "", api.ErrRange
	}
	unit, _ := integer.Pow(integer.FromInt64(10), places)
	units := Round(api.Frac{Num: integer.Mul(f.Num, unit), Den: f.Den})
	text := insertPoint(integer.Format(integer.Abs(units)), places)
	if integer.Sign(units) < 0 {
		return "-" + text, api.OK
	}
	return text, api.OK
}

// insertPoint puts a point before the last digits, so many as places.
func insertPoint(digits string, places int) string {
	if places == 0 {
		return digits
	}
	if missing := places + 1 - len(digits); missing > 0 {
		digits = strings.Repeat("0", missing) + digits
	}
	point := len(digits) - places
	return digits[:point] + "." + digits[point:]
}
