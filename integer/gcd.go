package integer

import (
	"slices"

	"pairing/api"
)

func GCD(a, b api.Int) api.Int {
	return newInt(false, gcdDigits(trim(a.Digits), trim(b.Digits)))
}

func ExtendedGCD(a, b api.Int) (g, x, y api.Int) {
	a, b = canonical(a), canonical(b)
	if len(b.Digits) == 0 {
		return Abs(a), FromInt64(int64(Sign(a))), api.Int{}
	}
	m := Abs(b)
	g, x = solve(a, m)
	period, _ := divide(m, g)
	_, x = divide(x, period)
	y, _ = divide(Sub(g, Mul(a, x)), b)
	return g, x, y
}

// solve returns the greatest common divisor g of a and m, which is positive,
// and an x with a x = g modulo m.
func solve(a, m api.Int) (g, x api.Int) {
	_, rest := divide(a, m)
	g, x = m, api.Int{}
	next := FromInt64(1)
	for len(rest.Digits) > 0 {
		q, r := divide(g, rest)
		g, rest = rest, r
		x, next = next, Sub(x, Mul(q, next))
	}
	return g, x
}

// divide is DivMod for b that is not 0.
func divide(a, b api.Int) (q, r api.Int) {
	q, r, _ = DivMod(a, b)
	return q, r
}

// gcdDigits is Lehmer's method: most steps of Euclid's algorithm are found from
// leading bits and carried out many at once.
func gcdDigits(a, b []uint32) []uint32 {
	if compareDigits(a, b) < 0 {
		a, b = b, a
	}
	for len(a) > 2 && len(b) > 0 {
		if s := foresee(a, b); s.first.b != 0 {
			a, b = combine(s.first, a, b), combine(s.second, a, b)
		} else {
			_, r := divDigits(a, b)
			a, b = b, r
		}
	}
	if len(b) == 0 {
		return slices.Clone(a)
	}
	return fromWord(gcdWords(toWord(a), toWord(b)))
}

func gcdWords(a, b uint64) uint64 {
	for b != 0 {
		a, b = b, a%b
	}
	return a
}

// combination stands for the number a * x + b * y of two numbers x and y.
type combination struct{ a, b int64 }

// steps is a run of steps of Euclid's algorithm: the two combinations that
// replace its two numbers.
type steps struct{ first, second combination }

// foresee returns the steps that the 62 leading bits of a determine, with the
// bits of b beside them; a is at least b and has at least three digits. The
// lower bits may add up to (but not) 1 to each of the leading parts x and y:
// a quotient counts if it is the same at both ends of that range. Then the
// factors of next are less than y in absolute value, and their products with y
// are at most the first x. So all factors are less than 2^31.
func foresee(a, b []uint32) steps {
	drop := bitLen(a) - 62
	x, y := leading(a, drop), leading(b, drop)
	s := steps{combination{1, 0}, combination{0, 1}}
	for y+s.second.a != 0 && y+s.second.b != 0 {
		q := (x + s.first.a) / (y + s.second.a)
		if q != (x+s.first.b)/(y+s.second.b) {
			break
		}
		next := combination{s.first.a - q*s.second.a, s.first.b - q*s.second.b}
		s = steps{s.second, next}
		x, y = y, x-q*y
	}
	return s
}

// leading returns d without its lowest drop bits; at most 62 are left.
func leading(d []uint32, drop int) int64 {
	low, shift := drop/digitBits, drop%digitBits
	if low >= len(d) {
		return 0
	}
	value := uint64(d[low]) >> shift
	for i := low + 1; i < len(d); i++ {
		value |= uint64(d[i]) << (digitBits*(i-low) - shift)
	}
	return int64(value)
}

// combine returns the combination of a and b, whose factors are less than 2^31
// and have different signs; it is not negative, and a is at least b and at least
// the result.
func combine(c combination, a, b []uint32) []uint32 {
	value := make([]uint32, len(a))
	carry := int64(0)
	for i, x := range a {
		carry += c.a * int64(x)
		if i < len(b) {
			carry += c.b * int64(b[i])
		}
		value[i] = uint32(carry)
		carry >>= digitBits
	}
	return trim(value)
}
