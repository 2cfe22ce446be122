package wire

import "pairing/api"

const (
	maxUint = 1 << 62
	maxInt  = 1 << 61

	groupBits = 7
	more      = 1 << groupBits // the bit of every byte but the last one
	maxGroups = 9
)

func EncodeUint(n int) ([]byte, api.Errno) {
	if n < 0 || n > maxUint {
		return nil, api.ErrRange
	}
	return appendUint(nil, n), api.OK
}

func appendUint(b []byte, n int) []byte {
	for ; n >= more; n >>= groupBits {
		b = append(b, byte(n)|more)
	}
	return append(b, byte(n))
}

func DecodeUint(b []byte) (n, used int, e api.Errno) {
	for i, c := range b {
		n |= int(c&^more) << (groupBits * i)
		switch {
		case c >= more && i+1 < maxGroups:
			continue
		case c >= more, c == 0 && i > 0, n > maxUint:
			return 0, 0, api.ErrForm
		}
		return n, i + 1, api.OK
	}
	return 0, 0, api.ErrCut
}

func EncodeInt(n int) ([]byte, api.Errno) {
	switch {
	case n < -maxInt, n > maxInt:
		return nil, api.ErrRange
	case n < 0:
		return EncodeUint(-2*n - 1)
	}
	return EncodeUint(2 * n)
}

func DecodeInt(b []byte) (n, used int, e api.Errno) {
	n, used, e = DecodeUint(b)
	if n%2 == 1 {
		return -(n + 1) / 2, used, e
	}
	return n / 2, used, e
}
