package wire_test

import (
	"bytes"
	"math/rand"
	"strings"
	"testing"

	"pairing/wire"
)

// P8.1

// checksumByBits is the definition, bit by bit.
func checksumByBits(b []byte) uint32 {
	sum := ^uint32(0)
	for _, c := range b {
		sum ^= uint32(c)
		for range 8 {
			odd := sum % 2
			sum = sum/2 ^ odd*0x82F63B78
		}
	}
	return ^sum
}

func checkChecksum(t *testing.T, b []byte) {
	t.Helper()
	got := wire.Checksum(b)
	if want := checksumByBits(b); got != want {
		t.Errorf("Checksum(%v), %d bytes: %x, want %x", describe(b), len(b), got, want)
	}
	if want := castagnoli(b); got != want {
		t.Errorf("Checksum(%v), %d bytes: %x, want %x as crc32 has it", describe(b), len(b), got, want)
	}
}

func TestChecksum(t *testing.T) {
	for s, want := range map[string]uint32{
		"":                         0,
		"a":                        0xC1D04330,
		"123456789":                0xE3069283,
		"\x00":                     0x527D5351,
		strings.Repeat("\x00", 32): 0x8A9136AA,
		strings.Repeat("\xff", 32): 0x62A8AB43,
	} {
		if sum := wire.Checksum([]byte(s)); sum != want {
			t.Errorf("Checksum(%q): %x, want %x", s, sum, want)
		}
	}
}

func TestChecksumOfShortBytes(t *testing.T) {
	checkChecksum(t, nil)
	checkChecksum(t, []byte{})
	for first := range 256 {
		checkChecksum(t, []byte{byte(first)})
		for second := range 256 {
			checkChecksum(t, []byte{byte(first), byte(second)})
		}
	}
}

func TestChecksumOfLongBytes(t *testing.T) {
	random := rand.New(rand.NewSource(3))
	for length := range 300 {
		b := make([]byte, length)
		random.Read(b)
		checkChecksum(t, b)
	}
	for _, length := range []int{1000, 65535, 65536, 1000003} {
		b := make([]byte, length)
		checkChecksum(t, b)
		random.Read(b)
		checkChecksum(t, b)
	}
}

// Zero bytes change a checksum, at the beginning and at the end.
func TestChecksumOfZeroBytes(t *testing.T) {
	seen := map[uint32]bool{}
	for length := range 100 {
		zeros := make([]byte, length)
		for _, b := range [][]byte{append([]byte{7}, zeros...), append(zeros, 8)} {
			checkChecksum(t, b)
			seen[wire.Checksum(b)] = true
		}
	}
	if len(seen) != 200 {
		t.Errorf("%d different checksums", len(seen))
	}
}

func TestChecksumOfPart(t *testing.T) {
	b := []byte("xx123456789yy")
	if sum := wire.Checksum(b[2:11]); sum != 0xE3069283 {
		t.Errorf("Checksum of a part: %x", sum)
	}
	if !bytes.Equal(b, []byte("xx123456789yy")) {
		t.Errorf("Checksum changed its argument to %q", b)
	}
}
