package wire_test

import (
	"bytes"
	"slices"
	"testing"

	"pairing/api"
	"pairing/wire"
)

// P8.3

// folded is the definition of the number that stands for a signed one.
func folded(n int) int {
	if n < 0 {
		return -2*n - 1
	}
	return 2 * n
}

func checkInt(t *testing.T, n int, want []byte) {
	t.Helper()
	if b, e := wire.EncodeInt(n); !bytes.Equal(b, want) || e != api.OK {
		t.Errorf("EncodeInt(%d): %v, %s, want %v", n, b, nameOf(e), want)
	}
	for _, rest := range [][]byte{nil, {0}, {255, 1}} {
		checkDecodeInt(t, slices.Concat(want, rest), n, len(want), api.OK)
	}
	for i := range want {
		checkDecodeInt(t, want[:i], 0, 0, api.ErrCut)
	}
}

func checkDecodeInt(t *testing.T, b []byte, want, wantUsed int, wantError api.Errno) {
	t.Helper()
	if n, used, e := wire.DecodeInt(b); n != want || used != wantUsed || e != wantError {
		t.Errorf("DecodeInt(%v), %d bytes: %d, %d, %s, want %d, %d, %s", describe(b), len(b), n, used, nameOf(e), want, wantUsed, nameOf(wantError))
	}
}

func TestInts(t *testing.T) {
	for _, c := range []struct {
		n int
		b []byte
	}{
		{0, []byte{0}},
		{-1, []byte{1}},
		{1, []byte{2}},
		{-2, []byte{3}},
		{2, []byte{4}},
		{63, []byte{126}},
		{-64, []byte{127}},
		{64, []byte{128, 1}},
		{-65, []byte{129, 1}},
		{150, []byte{172, 2}},
		{-150, []byte{171, 2}},
		{topInt - 1, []byte{254, 255, 255, 255, 255, 255, 255, 255, 63}},
		{-topInt, []byte{255, 255, 255, 255, 255, 255, 255, 255, 63}},
		{topInt, []byte{128, 128, 128, 128, 128, 128, 128, 128, 64}},
	} {
		checkInt(t, c.n, c.b)
	}
}

func TestIntsBothWays(t *testing.T) {
	for _, n := range encodableInts() {
		checkInt(t, n, encoded(folded(n)))
	}
}

func TestEncodeFaultyInts(t *testing.T) {
	for _, n := range faultyInts() {
		if b, e := wire.EncodeInt(n); len(b) != 0 || e != api.ErrRange {
			t.Errorf("EncodeInt(%d): %v, %s, want ErrRange", n, b, nameOf(e))
		}
	}
}

// Whatever is the encoding of a number is that of a signed one, too.
func TestDecodeIntForms(t *testing.T) {
	for _, b := range numberForms() {
		u, used, e := decoded(b)
		if e != api.OK {
			checkDecodeInt(t, b, 0, 0, e)
			continue
		}
		n, gotUsed, gotError := wire.DecodeInt(b)
		if folded(n) != u || gotUsed != used || gotError != api.OK {
			t.Errorf("DecodeInt(%v): %d, %d, %s, which stands for %d, want %d, %d", describe(b), n, gotUsed, nameOf(gotError), folded(n), u, used)
		}
	}
}
