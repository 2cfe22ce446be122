package rational

import (
	"math"

	"pairing/api"
	"pairing/integer"
)

// Most fractions fit in two machine words. The functions of this file compute
// with such fractions much faster than with digits.

// words returns the numerator and the positive denominator of f, not reduced, if
// the absolute values of both are at most most.
func words(f api.Frac, most int64) (num, den int64, ok bool) {
	num, numError := integer.ToInt64(f.Num)
	den, denError := integer.ToInt64(f.Den)
	if numError != api.OK || denError != api.OK || !isWithin(num, most) || !isWithin(den, most) {
		return 0, 0, false
	}
	switch {
	case den == 0:
		return 0, 1, true
	case den < 0:
		return -num, -den, true
	}
	return num, den, true
}

func isWithin(n, most int64) bool {
	return -most <= n && n <= most
}

// fromWords returns the canonical form of num / den, for a positive den.
func fromWords(num, den int64) api.Frac {
	g, rest := den, num%den
	for rest != 0 {
		g, rest = rest, g%rest
	}
	if g < 0 {
		g = -g
	}
	return api.Frac{Num: integer.FromInt64(num / g), Den: integer.FromInt64(den / g)}
}

// addWords returns a + b if it can be computed in machine words.
func addWords(a, b api.Frac) (sum api.Frac, ok bool) {
	const most = math.MaxInt32 // the sum of two products is less than 2^63
	aNum, aDen, aOK := words(a, most)
	bNum, bDen, bOK := words(b, most)
	if !aOK || !bOK {
		return api.Frac{}, false
	}
	return fromWords(aNum*bDen+bNum*aDen, aDen*bDen), true
}
