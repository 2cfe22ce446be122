package wire_test

import (
	"bytes"
	"encoding/binary"
	"hash/crc32"
	"math"
	"math/rand"
	"slices"

	"pairing/api"
)

const (
	topUint = 1 << 62
	topInt  = 1 << 61
	topBody = 1 << 20
)

var errorNames = map[api.Errno]string{api.OK: "OK", api.ErrForm: "ErrForm", api.ErrCut: "ErrCut", api.ErrChecksum: "ErrChecksum", api.ErrRange: "ErrRange", api.ErrTooLarge: "ErrTooLarge"}

// nameOf names an error for a message.
func nameOf(e api.Errno) string {
	if name, ok := errorNames[e]; ok {
		return name
	}
	return "another error"
}

// describe cuts long bytes for a message.
func describe(b []byte) []byte {
	return b[:min(len(b), 40)]
}

// castagnoli is the checksum as the standard library computes it.
func castagnoli(b []byte) uint32 {
	return crc32.Checksum(b, crc32.MakeTable(crc32.Castagnoli))
}

// encoded is the definition of the encoding of a number.
func encoded(n int) []byte {
	return binary.AppendUvarint(nil, uint64(n))
}

// framed is the definition of a frame.
func framed(kind byte, body []byte) []byte {
	b := slices.Concat([]byte{kind}, encoded(len(body)), body)
	return binary.BigEndian.AppendUint32(b, castagnoli(b))
}

// decoded is the definition of how a number is read, byte by byte.
func decoded(b []byte) (n, used int, e api.Errno) {
	value, power := uint64(0), uint64(1)
	for i := range 9 {
		if i == len(b) {
			return 0, 0, api.ErrCut
		}
		value += uint64(b[i]%128) * power
		power *= 128
		if b[i] < 128 {
			if b[i] == 0 && i > 0 || value > topUint {
				return 0, 0, api.ErrForm
			}
			return int(value), i + 1, api.OK
		}
	}
	return 0, 0, api.ErrForm
}

// unframed is the definition of how a frame is read.
func unframed(b []byte) (kind byte, body []byte, used int, e api.Errno) {
	if len(b) == 0 {
		return 0, nil, 0, api.ErrCut
	}
	length, head, e := decoded(b[1:])
	end := 1 + head + length
	switch {
	case e != api.OK:
		return 0, nil, 0, e
	case length > topBody:
		return 0, nil, 0, api.ErrForm
	case len(b) < end+4:
		return 0, nil, 0, api.ErrCut
	case binary.BigEndian.Uint32(b[end:]) != castagnoli(b[:end]):
		return 0, nil, 0, api.ErrChecksum
	}
	return b[0], b[1+head : end], end + 4, api.OK
}

// encodableUints returns numbers from 0 to 2^62, with those at the ends of the
// lengths of their encodings.
func encodableUints() []int {
	random := rand.New(rand.NewSource(1))
	l := []int{topUint, topUint - 1, 300}
	for n := range 1000 {
		l = append(l, n, topUint-n)
	}
	for shift := range 62 {
		n := 1 << shift
		l = append(l, n-1, n, n+1, 3*n/2, random.Intn(n), n+random.Intn(n))
	}
	return l
}

// faultyUints returns numbers that are not from 0 to 2^62.
func faultyUints() []int {
	l := []int{math.MinInt, math.MinInt + 1, math.MaxInt, math.MaxInt - 1, topUint + topInt}
	for shift := range 62 {
		n := 1 << shift
		l = append(l, -n, -n-1, topUint+n, math.MinInt+n)
	}
	return l
}

// encodableInts returns numbers from -2^61 to 2^61.
func encodableInts() []int {
	var l []int
	for _, n := range encodableUints() {
		if n <= topInt {
			l = append(l, n, -n)
		}
		l = append(l, n-topInt, topInt-n)
	}
	return l
}

// faultyInts returns numbers that are not from -2^61 to 2^61.
func faultyInts() []int {
	l := []int{math.MinInt, math.MinInt + 1, math.MaxInt, math.MaxInt - 1, topUint, -topUint, topUint + topInt, -topUint - topInt}
	for shift := range 61 {
		n := topInt + 1<<shift
		l = append(l, n, -n, math.MaxInt-1<<shift, math.MinInt+1<<shift)
	}
	return l
}

// allBytes returns all strings of at most n bytes from an alphabet.
func allBytes(alphabet []byte, n int) [][]byte {
	l := [][]byte{nil}
	for i := 0; i < len(l) && len(l[i]) < n; i++ {
		for _, c := range alphabet {
			l = append(l, append(slices.Clone(l[i]), c))
		}
	}
	return l
}

// numberForms returns bytes that are encodings of numbers, of which some are
// too short, too long or too large, with and without bytes behind them.
func numberForms() [][]byte {
	l := allBytes([]byte{0, 1, 64, 127, 128, 129, 255}, 5)
	ends := allBytes([]byte{0, 1, 2, 63, 64, 65, 127, 128, 129, 191, 192, 255}, 3)
	for length := range 11 {
		for _, c := range []byte{128, 129, 200, 255} {
			for _, end := range ends {
				l = append(l, append(bytes.Repeat([]byte{c}, length), end...))
			}
		}
	}
	// The largest number and its neighbours, by the ninth byte.
	for first := range 256 {
		for last := range 256 {
			b := slices.Concat([]byte{byte(first)}, bytes.Repeat([]byte{128}, 7), []byte{byte(last)})
			l = append(l, b, []byte{byte(first), byte(last)})
		}
	}
	return append(l, bytes.Repeat([]byte{128}, 100000), bytes.Repeat([]byte{255}, 100000), make([]byte, 100000))
}

// exampleBodies returns bodies of frames, with those at the ends of the
// lengths of their encoded lengths.
func exampleBodies() [][]byte {
	random := rand.New(rand.NewSource(2))
	l := [][]byte{nil, {}, {0}, {255}, []byte("body"), []byte("123456789"), make([]byte, 300)}
	for _, length := range []int{1, 2, 3, 4, 5, 100, 127, 128, 129, 255, 256, 1000, 16383, 16384, 20001, 65536, topBody - 1, topBody} {
		body := make([]byte, length)
		random.Read(body)
		l = append(l, body)
	}
	return l
}
