package wire

import (
	"bytes"

	"pairing/api"
)

const (
	maxBody  = 1 << 20
	sumBytes = 4
)

func Frame(kind byte, body []byte) ([]byte, api.Errno) {
	if len(body) > maxBody {
		return nil, api.ErrTooLarge
	}
	content := append(appendUint([]byte{kind}, len(body)), body...)
	return append(content, sumOf(content)...), api.OK
}

func Unframe(b []byte) (kind byte, body []byte, used int, e api.Errno) {
	if len(b) == 0 {
		return 0, nil, 0, api.ErrCut
	}
	body, used, e = measured(b[1:], maxBody)
	if e != api.OK {
		return 0, nil, 0, e
	}
	content, rest := b[:1+used], b[1+used:]
	if len(rest) < sumBytes {
		return 0, nil, 0, api.ErrCut
	}
	if !bytes.HasPrefix(rest, sumOf(content)) {
		return 0, nil, 0, api.ErrChecksum
	}
	return b[0], bytes.Clone(body), len(content) + sumBytes, api.OK
}

// sumOf returns the checksum of b as bytes, the most significant one first.
func sumOf(b []byte) []byte {
	sum := Checksum(b)
	return []byte{byte(sum >> 24), byte(sum >> 16), byte(sum >> 8), byte(sum)}
}
