package integer

import (
	"cmp"
	"math/bits"
)

// The functions of this file compute with absolute values: lists of digits as
// in api.Int, as trim returns them. They do not change their arguments, unless
// they say so.

const digitBits = 32

// trim cuts off leading zero digits, together with the spare capacity: appending
// to a part of an argument must not write into the argument.
func trim(d []uint32) []uint32 {
	n := len(d)
	for n > 0 && d[n-1] == 0 {
		n--
	}
	return d[:n:n]
}

func fromWord(w uint64) []uint32 {
	return trim([]uint32{uint32(w), uint32(w >> digitBits)})
}

// toWord returns the value of at most two digits.
func toWord(d []uint32) uint64 {
	w := uint64(0)
	for i, x := range d {
		w |= uint64(x) << (digitBits * i)
	}
	return w
}

func bitLen(d []uint32) int {
	if len(d) == 0 {
		return 0
	}
	top := len(d) - 1
	return digitBits*top + bits.Len32(d[top])
}

func compareDigits(a, b []uint32) int {
	if len(a) != len(b) {
		return cmp.Compare(len(a), len(b))
	}
	for i := len(a) - 1; i >= 0; i-- {
		if a[i] != b[i] {
			return cmp.Compare(a[i], b[i])
		}
	}
	return 0
}

func addDigits(a, b []uint32) []uint32 {
	if len(a) < len(b) {
		a, b = b, a
	}
	sum := make([]uint32, len(a)+1)
	carry := uint64(0)
	for i, x := range a {
		carry += uint64(x)
		if i < len(b) {
			carry += uint64(b[i])
		}
		sum[i] = uint32(carry)
		carry >>= digitBits
	}
	sum[len(a)] = uint32(carry)
	return trim(sum)
}

// subDigits returns a - b for a that is at least b.
func subDigits(a, b []uint32) []uint32 {
	difference := make([]uint32, len(a))
	carry := int64(0)
	for i, x := range a {
		carry += int64(x)
		if i < len(b) {
			carry -= int64(b[i])
		}
		difference[i] = uint32(carry)
		carry >>= digitBits
	}
	return trim(difference)
}

func mulDigits(a, b []uint32) []uint32 {
	product := make([]uint32, len(a)+len(b))
	for i, x := range a {
		carry := uint64(0)
		row := product[i : i+len(b)+1]
		for k, y := range b {
			carry += uint64(x)*uint64(y) + uint64(row[k])
			row[k] = uint32(carry)
			carry >>= digitBits
		}
		row[len(b)] = uint32(carry)
	}
	return trim(product)
}

// mulAddSmall changes d to d * factor + summand, and appends a digit to d if
// that needs one more.
func mulAddSmall(d []uint32, factor, summand uint32) []uint32 {
	carry := uint64(summand)
	for i, x := range d {
		carry += uint64(x) * uint64(factor)
		d[i] = uint32(carry)
		carry >>= digitBits
	}
	if carry == 0 {
		return d
	}
	return append(d, uint32(carry))
}

// shiftLeft returns d with shift (0 to 31) zero bits below it, in len(d)+1
// digits, the last of which may be zero.
func shiftLeft(d []uint32, shift int) []uint32 {
	shifted := make([]uint32, len(d)+1)
	carry := uint64(0)
	for i, x := range d {
		carry |= uint64(x) << shift
		shifted[i] = uint32(carry)
		carry >>= digitBits
	}
	shifted[len(d)] = uint32(carry)
	return shifted
}

// shiftRight returns d without its lowest shift (0 to 31) bits.
func shiftRight(d []uint32, shift int) []uint32 {
	shifted := make([]uint32, len(d))
	above := uint64(0)
	for i := len(d) - 1; i >= 0; i-- {
		above = above<<digitBits | uint64(d[i])
		shifted[i] = uint32(above >> shift)
	}
	return trim(shifted)
}
