package wire

import "pairing/api"

func EncodeText(s string) ([]byte, api.Errno) {
	if len(s) > api.MaxText {
		return nil, api.ErrTooLarge
	}
	return append(appendUint(nil, len(s)), s...), api.OK
}

func DecodeText(b []byte) (s string, used int, e api.Errno) {
	part, used, e := measured(b, api.MaxText)
	return string(part), used, e
}

// measured returns the bytes behind their length, which is at most a limit, at
// the beginning of b. They lie in the memory of b.
func measured(b []byte, limit int) (part []byte, used int, e api.Errno) {
	length, head, e := DecodeUint(b)
	switch {
	case e != api.OK:
		return nil, 0, e
	case length > limit:
		return nil, 0, api.ErrForm
	case length > len(b)-head:
		return nil, 0, api.ErrCut
	}
	used = head + length
	return b[head:used], used, api.OK
}
