package wire_test

import (
	"bytes"
	"slices"
	"strings"
	"testing"

	"pairing/api"
	"pairing/wire"
)

// P8.4

func checkDecodeText(t *testing.T, b []byte, want string, wantUsed int, wantError api.Errno) {
	t.Helper()
	if s, used, e := wire.DecodeText(b); s != want || used != wantUsed || e != wantError {
		t.Errorf("DecodeText(%q), %d bytes: %q, %d, %s, want %q, %d, %s", describe(b), len(b), describe([]byte(s)), used, nameOf(e), describe([]byte(want)), wantUsed, nameOf(wantError))
	}
}

func checkText(t *testing.T, s string) {
	t.Helper()
	want := append(encoded(len(s)), s...)
	if b, e := wire.EncodeText(s); !bytes.Equal(b, want) || e != api.OK {
		t.Errorf("EncodeText of %d bytes: %q, %s, want %q", len(s), describe(b), nameOf(e), describe(want))
	}
	for _, rest := range [][]byte{nil, {0}, []byte("more"), bytes.Repeat([]byte{255}, 1000)} {
		checkDecodeText(t, slices.Concat(want, rest), s, len(want), api.OK)
	}
	for i := 0; i < len(want); i += 1 + len(want)/200 {
		checkDecodeText(t, want[:i], "", 0, api.ErrCut)
	}
	checkDecodeText(t, want[:len(want)-1], "", 0, api.ErrCut)
}

func TestTexts(t *testing.T) {
	for _, s := range []string{"", "a", "abc", " ", "\n", "\x00", "\x00\x00", "\xff", "\x80\x00\x01", "é", "é\x00\xff", "\u65e5\u672c", "\U0001f600", "\xf0\x9f\x98", "\xed\xa0\x80"} {
		checkText(t, s)
	}
	for _, length := range []int{126, 127, 128, 129, 300, 16383, 16384, 16385, api.MaxText - 1, api.MaxText} {
		checkText(t, strings.Repeat("x", length))
		checkText(t, strings.Repeat("\xff", length))
	}
	for c := range 256 {
		checkText(t, string([]byte{byte(c)}))
		checkText(t, string([]byte{'a', byte(c), 'b'}))
	}
}

func TestEncodeLargeTexts(t *testing.T) {
	for _, length := range []int{api.MaxText + 1, api.MaxText + 2, 2 * api.MaxText, 1 << 20} {
		if b, e := wire.EncodeText(strings.Repeat("y", length)); len(b) != 0 || e != api.ErrTooLarge {
			t.Errorf("EncodeText of %d bytes: %d bytes, %s, want ErrTooLarge", length, len(b), nameOf(e))
		}
	}
}

func TestDecodeTextErrors(t *testing.T) {
	for want, forms := range map[api.Errno][][]byte{
		api.ErrCut: {nil, {}, {128}, {1}, {2, 'a'}, {127}, {255, 128}, encoded(api.MaxText), append(encoded(api.MaxText), "abc"...)},
		api.ErrForm: {
			{128, 0}, {128, 0, 1}, {129, 0, 'a'}, {131, 0, 'a', 'b', 'c'}, bytes.Repeat([]byte{255}, 9),
			// A length above the limit, whether or not so many bytes follow.
			encoded(api.MaxText + 1), append(encoded(api.MaxText+1), "abc"...), append(encoded(api.MaxText+1), make([]byte, api.MaxText+1)...), append(encoded(api.MaxText+1), make([]byte, 2*api.MaxText)...),
			encoded(1 << 20), encoded(1 << 31), encoded(1 << 32), encoded(1<<32 + 1), append(encoded(1<<32), 'a'), encoded(topUint - 1), encoded(topUint), append(encoded(topUint), "abc"...), encoded(topUint + 1),
		},
	} {
		for _, b := range forms {
			checkDecodeText(t, b, "", 0, want)
		}
	}
}

func TestDecodeTextForms(t *testing.T) {
	for _, b := range numberForms() {
		length, head, e := decoded(b)
		used := head + length
		switch {
		case e != api.OK:
			checkDecodeText(t, b, "", 0, e)
		case length > api.MaxText:
			checkDecodeText(t, b, "", 0, api.ErrForm)
		case len(b) < used:
			checkDecodeText(t, b, "", 0, api.ErrCut)
		default:
			checkDecodeText(t, b, string(b[head:used]), used, api.OK)
		}
	}
}

func TestSequenceOfTexts(t *testing.T) {
	texts := []string{"one", "", "", "three", strings.Repeat("z", 500), "\x05four"}
	var all []byte
	for _, s := range texts {
		b, _ := wire.EncodeText(s)
		all = append(all, b...)
	}
	for _, want := range texts {
		s, used, e := wire.DecodeText(all)
		if s != want || e != api.OK {
			t.Fatalf("DecodeText: %q, %s, want %q", s, nameOf(e), want)
		}
		all = all[used:]
	}
	checkDecodeText(t, all, "", 0, api.ErrCut)
}
