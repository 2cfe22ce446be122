package integer

import (
	"math/bits"

	"pairing/api"
)

const maxPower = 64

func Pow(a api.Int, n int) (api.Int, api.Errno) {
	if n < 0 || n > maxPower {
		return api.Int{}, api.ErrRange
	}
	power := FromInt64(1)
	for i := bits.Len(uint(n)) - 1; i >= 0; i-- {
		power = Mul(power, power)
		if n>>i&1 == 1 {
			power = Mul(power, a)
		}
	}
	return power, api.OK
}

// Sqrt is Newton's method: from a number above the root the approximations
// fall until they reach it.
func Sqrt(a api.Int) (api.Int, api.Errno) {
	a = canonical(a)
	if a.Neg {
		return api.Int{}, api.ErrRange
	}
	if len(a.Digits) == 0 {
		return api.Int{}, api.OK
	}
	root := powerOfTwo((bitLen(a.Digits) + 1) / 2)
	for {
		q, _ := divDigits(a.Digits, root)
		next := shiftRight(addDigits(root, q), 1)
		if compareDigits(next, root) >= 0 {
			return newInt(false, root), api.OK
		}
		root = next
	}
}

func powerOfTwo(n int) []uint32 {
	d := make([]uint32, n/digitBits+1)
	d[n/digitBits] = 1 << (n % digitBits)
	return d
}
