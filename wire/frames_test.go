package wire_test

import (
	"bytes"
	"encoding/binary"
	"slices"
	"testing"

	"pairing/api"
	"pairing/wire"
)

// P8.5

// checkUnframe compares Unframe with its definition and returns its error.
func checkUnframe(t *testing.T, b []byte) api.Errno {
	t.Helper()
	kind, body, used, e := wire.Unframe(b)
	wantKind, want, wantUsed, wantError := unframed(b)
	if kind != wantKind || !bytes.Equal(body, want) || used != wantUsed || e != wantError {
		t.Errorf("Unframe(%v), %d bytes: %d, %d bytes, %d, %s, want %d, %d bytes, %d, %s", describe(b), len(b), kind, len(body), used, nameOf(e), wantKind, len(want), wantUsed, nameOf(wantError))
	}
	return e
}

func checkUnframeError(t *testing.T, b []byte, want api.Errno) {
	t.Helper()
	if e := checkUnframe(t, b); e != want {
		t.Errorf("Unframe(%v), %d bytes: %s, want %s", describe(b), len(b), nameOf(e), nameOf(want))
	}
}

func TestFrame(t *testing.T) {
	for _, c := range []struct {
		kind    byte
		body    string
		content []byte
	}{
		{0, "", []byte{0, 0}},
		{9, "body", []byte{9, 4, 'b', 'o', 'd', 'y'}},
		{0, "\x00", []byte{0, 1, 0}},
		{'1', "", []byte{'1', 0}},
		{255, "a", []byte{255, 1, 'a'}},
	} {
		want := binary.BigEndian.AppendUint32(c.content, checksumByBits(c.content))
		if b, e := wire.Frame(c.kind, []byte(c.body)); !bytes.Equal(b, want) || e != api.OK {
			t.Errorf("Frame(%d, %q): %v, %s, want %v", c.kind, c.body, b, nameOf(e), want)
		}
	}
	// The checksum of two zero bytes is 0xF16177D2.
	if b, e := wire.Frame(0, nil); !bytes.Equal(b, []byte{0, 0, 0xF1, 0x61, 0x77, 0xD2}) || e != api.OK {
		t.Errorf("Frame(0, nil): %v, %s", b, nameOf(e))
	}
}

func TestFramesBothWays(t *testing.T) {
	for _, body := range exampleBodies() {
		for _, kind := range []byte{0, 1, 9, 127, 128, 255} {
			want := framed(kind, body)
			b, e := wire.Frame(kind, body)
			if !bytes.Equal(b, want) || e != api.OK {
				t.Errorf("Frame(%d, %v), %d bytes: %v, %s, want %v", kind, describe(body), len(body), describe(b), nameOf(e), describe(want))
			}
			for _, rest := range [][]byte{nil, {0}, []byte("more and more"), want[:min(len(want), 100)]} {
				checkUnframeError(t, slices.Concat(want, rest), api.OK)
			}
		}
	}
}

func TestEveryKind(t *testing.T) {
	for c := range 256 {
		b, _ := wire.Frame(byte(c), []byte{byte(c), 1})
		kind, body, used, e := wire.Unframe(b)
		if kind != byte(c) || !bytes.Equal(body, []byte{byte(c), 1}) || used != 8 || e != api.OK {
			t.Errorf("kind %d: %d, %v, %d, %s", c, kind, body, used, nameOf(e))
		}
	}
}

func TestLargeBodies(t *testing.T) {
	for _, length := range []int{topBody + 1, topBody + 2, 2 * topBody, 3 * topBody} {
		body := make([]byte, length)
		if b, e := wire.Frame(1, body); len(b) != 0 || e != api.ErrTooLarge {
			t.Errorf("Frame of %d bytes: %d bytes, %s, want ErrTooLarge", length, len(b), nameOf(e))
		}
		// It is too long, even if it is complete.
		checkUnframeError(t, framed(1, body), api.ErrForm)
	}
}

func TestCutFrames(t *testing.T) {
	for _, body := range exampleBodies() {
		b := framed(7, body)
		for i := 0; i < len(b); i += 1 + len(b)/100 {
			checkUnframeError(t, b[:i], api.ErrCut)
		}
		for i := max(0, len(b)-6); i < len(b); i++ {
			checkUnframeError(t, b[:i], api.ErrCut)
		}
	}
}

func TestChangedFrames(t *testing.T) {
	for _, body := range [][]byte{nil, {0}, []byte("body"), make([]byte, 200)} {
		b := framed(9, body)
		for i := range b {
			for c := range 256 {
				changed := slices.Clone(b)
				changed[i] = byte(c)
				if e := checkUnframe(t, append(changed, 1, 2, 3)); (e == api.OK) != bytes.Equal(changed, b) {
					t.Errorf("a frame of %d bytes with the byte %d in the place %d: %s", len(body), c, i, nameOf(e))
				}
			}
		}
	}
}

func TestWrongChecksums(t *testing.T) {
	b := framed(9, []byte("some body"))
	head, sum := b[:len(b)-4], b[len(b)-4:]
	reversed := slices.Clone(sum)
	slices.Reverse(reversed)
	for _, wrong := range [][]byte{
		reversed,
		{0, 0, 0, 0},
		{255, 255, 255, 255},
		{^sum[0], ^sum[1], ^sum[2], ^sum[3]},
		{sum[1], sum[0], sum[2], sum[3]},
		{sum[0], sum[1], sum[2], sum[3] + 1},
		{sum[0] + 1, sum[1], sum[2], sum[3]},
		binary.BigEndian.AppendUint32(nil, castagnoli([]byte("some body"))),
		binary.BigEndian.AppendUint32(nil, castagnoli(head[1:])),
		binary.BigEndian.AppendUint32(nil, castagnoli(append([]byte{9}, "some body"...))),
	} {
		changed := slices.Concat(head, wrong)
		checkUnframeError(t, changed, api.ErrChecksum)
		checkUnframeError(t, append(changed, sum...), api.ErrChecksum)
	}
}

// The length is an encoding like all others, and its errors come first.
func TestFaultyLengths(t *testing.T) {
	long, huge := encoded(topBody+1), encoded(topUint)
	for want, forms := range map[api.Errno][][]byte{
		api.ErrCut: {
			nil, {}, {0}, {1}, {255}, {1, 128}, {1, 255, 255}, {1, 0}, {1, 0, 1, 2, 3}, {1, 3, 1, 2, 3, 0, 0, 0}, {1, 3, 1, 2}, {1, 127},
			append([]byte{1}, encoded(topBody)...), append([]byte{1}, bytes.Repeat([]byte{128}, 8)...),
		},
		api.ErrForm: {
			{1, 128, 0}, {1, 131, 0}, {1, 128, 128, 0}, append([]byte{1}, bytes.Repeat([]byte{128}, 9)...), append([]byte{1}, encoded(topUint+1)...),
			append([]byte{1}, long...), append([]byte{1}, huge...), append([]byte{1}, encoded(1<<32)...), append([]byte{1}, encoded(1<<32+1)...), append([]byte{1}, encoded(topUint-1)...), slices.Concat([]byte{1}, long, make([]byte, 10)),
		},
		api.ErrChecksum: {{1, 0, 0, 0, 0, 0}, {1, 3, 1, 2, 3, 0, 0, 0, 0}},
	} {
		for _, b := range forms {
			checkUnframeError(t, b, want)
		}
	}
	// A length that is one byte longer than it need be, with its checksum.
	b := []byte{1, 131, 0, 'a', 'b', 'c'}
	checkUnframeError(t, binary.BigEndian.AppendUint32(b, castagnoli(b)), api.ErrForm)
}

func TestUnframeForms(t *testing.T) {
	for _, b := range numberForms() {
		checkUnframe(t, b)
		checkUnframe(t, append([]byte{5}, b...))
	}
}

func TestSequenceOfFrames(t *testing.T) {
	var all []byte
	for i, body := range exampleBodies() {
		b, _ := wire.Frame(byte(i), body)
		all = append(all, b...)
	}
	for i, want := range exampleBodies() {
		kind, body, used, e := wire.Unframe(all)
		if kind != byte(i) || !bytes.Equal(body, want) || e != api.OK {
			t.Fatalf("Unframe: %d, %d bytes, %s, want %d, %d bytes", kind, len(body), nameOf(e), i, len(want))
		}
		all = all[used:]
	}
	checkUnframeError(t, all, api.ErrCut)
}
