package integer

import (
	"math/bits"
	"slices"

	"pairing/api"
)

func DivMod(a, b api.Int) (q, r api.Int, e api.Errno) {
	a, b = canonical(a), canonical(b)
	if len(b.Digits) == 0 {
		return api.Int{}, api.Int{}, api.ErrZero
	}
	quotient, rest := divDigits(a.Digits, b.Digits)
	if a.Neg != b.Neg && len(rest) > 0 {
		// The quotient of the absolute values is rounded toward zero, the wrong way here.
		quotient = addDigits(quotient, fromWord(1))
		rest = subDigits(b.Digits, rest)
	}
	return newInt(a.Neg != b.Neg, quotient), newInt(b.Neg, rest), api.OK
}

// divDigits returns quotient and remainder of two absolute values; b is not 0.
func divDigits(a, b []uint32) (q, r []uint32) {
	if compareDigits(a, b) < 0 {
		return nil, slices.Clone(a)
	}
	if len(b) == 1 {
		q = make([]uint32, len(a))
		rest := divSmall(q, a, b[0])
		return trim(q), fromWord(uint64(rest))
	}
	return divLong(a, b)
}

// divSmall stores a / b in q, which may be a, and returns the remainder.
func divSmall(q, a []uint32, b uint32) uint32 {
	rest := uint64(0)
	for i := len(a) - 1; i >= 0; i-- {
		rest = rest<<digitBits | uint64(a[i])
		q[i] = uint32(rest / uint64(b))
		rest %= uint64(b)
	}
	return uint32(rest)
}

// divLong divides by b of at least two digits, for a that is at least b. Both
// are shifted so that the top bit of b is set: then a guess from the top digits
// is too large by one at most.
func divLong(a, b []uint32) (q, r []uint32) {
	n := len(b)
	shift := bits.LeadingZeros32(b[n-1])
	rest := shiftLeft(a, shift)
	divisor := shiftLeft(b, shift)[:n]
	q = make([]uint32, len(a)-n+1)
	for i := len(q) - 1; i >= 0; i-- {
		part := rest[i : i+n+1]
		guess := guessDigit(part, divisor)
		if subProduct(part, divisor, guess) {
			guess--
			addBack(part, divisor)
		}
		q[i] = guess
	}
	return trim(q), shiftRight(rest[:n], shift)
}

// guessDigit returns part / divisor or one more, from the three top digits of
// part and the two top digits of divisor. Part has one digit more than divisor,
// and the quotient is a digit.
func guessDigit(part, divisor []uint32) uint32 {
	const limit = 1 << digitBits
	n := len(divisor)
	high, next := uint64(divisor[n-1]), uint64(divisor[n-2])
	top := uint64(part[n])<<digitBits | uint64(part[n-1])
	guess, rest := top/high, top%high
	for guess >= limit || guess*next > rest<<digitBits|uint64(part[n-2]) {
		guess--
		rest += high
		if rest >= limit {
			break
		}
	}
	return uint32(guess)
}

// subProduct changes part to part - divisor * factor, but for its top digit,
// which is not read again, and reports whether that is negative.
func subProduct(part, divisor []uint32, factor uint32) bool {
	carry, borrow := uint64(0), int64(0)
	for i, x := range divisor {
		carry += uint64(x) * uint64(factor)
		borrow += int64(part[i]) - int64(uint32(carry))
		part[i] = uint32(borrow)
		carry >>= digitBits
		borrow >>= digitBits
	}
	return borrow+int64(part[len(divisor)]) < int64(carry)
}

// addBack adds divisor to part, but for its top digit.
func addBack(part, divisor []uint32) {
	carry := uint64(0)
	for i, x := range divisor {
		carry += uint64(part[i]) + uint64(x)
		part[i] = uint32(carry)
		carry >>= digitBits
	}
}
