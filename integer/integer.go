// Package integer is layer 1: signed big integers.
package integer

import (
	"slices"

	"pairing/api"
)

func FromInt64(n int64) api.Int {
	size := uint64(n)
	if n < 0 {
		size = -size
	}
	return newInt(n < 0, fromWord(size))
}

func ToInt64(a api.Int) (int64, api.Errno) {
	const half = 1 << 63
	a = canonical(a)
	if len(a.Digits) > 2 {
		return 0, api.ErrRange
	}
	size := toWord(a.Digits)
	if size > half || size == half && !a.Neg {
		return 0, api.ErrRange
	}
	if a.Neg {
		size = -size
	}
	return int64(size), api.OK
}

func Compare(a, b api.Int) int {
	a, b = canonical(a), canonical(b)
	switch {
	case a.Neg && !b.Neg:
		return -1
	case !a.Neg && b.Neg:
		return 1
	case a.Neg:
		return compareDigits(b.Digits, a.Digits)
	}
	return compareDigits(a.Digits, b.Digits)
}

func Sign(a api.Int) int {
	a = canonical(a)
	switch {
	case a.Neg:
		return -1
	case len(a.Digits) > 0:
		return 1
	}
	return 0
}

func Negate(a api.Int) api.Int {
	return newInt(!a.Neg, slices.Clone(a.Digits))
}

func Abs(a api.Int) api.Int {
	return newInt(false, slices.Clone(a.Digits))
}

func Add(a, b api.Int) api.Int {
	a, b = canonical(a), canonical(b)
	if a.Neg == b.Neg {
		return newInt(a.Neg, addDigits(a.Digits, b.Digits))
	}
	if compareDigits(a.Digits, b.Digits) < 0 {
		a, b = b, a
	}
	return newInt(a.Neg, subDigits(a.Digits, b.Digits))
}

func Sub(a, b api.Int) api.Int {
	b.Neg = !b.Neg
	return Add(a, b)
}

func Mul(a, b api.Int) api.Int {
	a, b = canonical(a), canonical(b)
	return newInt(a.Neg != b.Neg, mulDigits(a.Digits, b.Digits))
}

func BitLen(a api.Int) int {
	return bitLen(trim(a.Digits))
}

// canonical shares the digits of a, so that its result may only be read.
func canonical(a api.Int) api.Int {
	return newInt(a.Neg, a.Digits)
}

func newInt(neg bool, d []uint32) api.Int {
	d = trim(d)
	if len(d) == 0 {
		return api.Int{}
	}
	return api.Int{Neg: neg, Digits: d}
}
