package wire_test

import (
	"bytes"
	"slices"
	"testing"

	"pairing/api"
	"pairing/wire"
)

// P8.2

func checkEncodeUint(t *testing.T, n int, want []byte) {
	t.Helper()
	if b, e := wire.EncodeUint(n); !bytes.Equal(b, want) || e != api.OK {
		t.Errorf("EncodeUint(%d): %v, %s, want %v", n, b, nameOf(e), want)
	}
}

func checkDecodeUint(t *testing.T, b []byte, want, wantUsed int, wantError api.Errno) {
	t.Helper()
	if n, used, e := wire.DecodeUint(b); n != want || used != wantUsed || e != wantError {
		t.Errorf("DecodeUint(%v), %d bytes: %d, %d, %s, want %d, %d, %s", describe(b), len(b), n, used, nameOf(e), want, wantUsed, nameOf(wantError))
	}
}

func TestUints(t *testing.T) {
	for _, c := range []struct {
		n int
		b []byte
	}{
		{0, []byte{0}},
		{1, []byte{1}},
		{127, []byte{127}},
		{128, []byte{128, 1}},
		{129, []byte{129, 1}},
		{255, []byte{255, 1}},
		{256, []byte{128, 2}},
		{300, []byte{172, 2}},
		{16383, []byte{255, 127}},
		{16384, []byte{128, 128, 1}},
		{1<<28 - 1, []byte{255, 255, 255, 127}},
		{1 << 32, []byte{128, 128, 128, 128, 16}},
		{1<<56 - 1, []byte{255, 255, 255, 255, 255, 255, 255, 127}},
		{1 << 56, []byte{128, 128, 128, 128, 128, 128, 128, 128, 1}},
		{topUint - 1, []byte{255, 255, 255, 255, 255, 255, 255, 255, 63}},
		{topUint, []byte{128, 128, 128, 128, 128, 128, 128, 128, 64}},
	} {
		checkEncodeUint(t, c.n, c.b)
		checkDecodeUint(t, c.b, c.n, len(c.b), api.OK)
	}
}

func TestUintsBothWays(t *testing.T) {
	for _, n := range encodableUints() {
		b := encoded(n)
		checkEncodeUint(t, n, b)
		for _, rest := range [][]byte{nil, {0}, {1, 2}, {128}, {255, 255}, make([]byte, 100)} {
			checkDecodeUint(t, slices.Concat(b, rest), n, len(b), api.OK)
		}
		for i := range b {
			checkDecodeUint(t, b[:i], 0, 0, api.ErrCut)
		}
	}
}

func TestEncodeFaultyUints(t *testing.T) {
	for _, n := range faultyUints() {
		if b, e := wire.EncodeUint(n); len(b) != 0 || e != api.ErrRange {
			t.Errorf("EncodeUint(%d): %v, %s, want ErrRange", n, b, nameOf(e))
		}
	}
}

func TestDecodeUintErrors(t *testing.T) {
	full := bytes.Repeat([]byte{255}, 8)
	zeros := bytes.Repeat([]byte{128}, 8)
	for want, forms := range map[api.Errno][][]byte{
		api.ErrCut: {nil, {}, {128}, {255}, {128, 128}, full, zeros},
		api.ErrForm: {
			{128, 0}, {255, 0}, {129, 0}, {128, 128, 0}, {255, 128, 0, 7}, {128, 0, 128},
			// The last byte is the ninth one.
			append(zeros[:8:8], 0), append(full[:8:8], 0),
			// The number is above 2^62.
			append(full[:8:8], 64), append(zeros[:8:8], 65), append(full[:8:8], 127), append([]byte{129}, append(zeros[:7:7], 64)...), append(zeros[:7:7], 129, 64),
			// The ninth byte is not the last one, whether or not more follow.
			append(zeros[:8:8], 128), append(full[:8:8], 255), append(zeros[:8:8], 128, 0), append(zeros[:8:8], 128, 1), append(zeros[:8:8], 192), append(full[:8:8], 128, 128),
		},
	} {
		for _, b := range forms {
			checkDecodeUint(t, b, 0, 0, want)
		}
	}
}

func TestDecodeUintForms(t *testing.T) {
	for _, b := range numberForms() {
		n, used, e := decoded(b)
		checkDecodeUint(t, b, n, used, e)
		if e == api.OK {
			// No number has two encodings.
			checkEncodeUint(t, n, b[:used])
		}
	}
}

func TestSequenceOfUints(t *testing.T) {
	var all []byte
	for _, n := range encodableUints() {
		all = append(all, encoded(n)...)
	}
	for _, want := range encodableUints() {
		n, used, e := wire.DecodeUint(all)
		if n != want || e != api.OK {
			t.Fatalf("DecodeUint: %d, %s, want %d", n, nameOf(e), want)
		}
		all = all[used:]
	}
	checkDecodeUint(t, all, 0, 0, api.ErrCut)
}
