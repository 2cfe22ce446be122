package wire_test

import (
	"bytes"
	"slices"
	"testing"

	"pairing/api"
	"pairing/wire"
)

// R2

// readAll calls each function that reads bytes.
func readAll(b []byte) {
	wire.Checksum(b)
	wire.DecodeUint(b)
	wire.DecodeInt(b)
	wire.DecodeText(b)
	wire.Frame(9, b)
	wire.Unframe(b)
}

func TestArgumentsAreNotModified(t *testing.T) {
	examples := append(exampleBodies(), framed(3, []byte("body")), []byte("\x04body"), []byte{128, 0}, []byte{172, 2})
	for _, b := range examples {
		spare := slices.Concat(b, []byte("spare capacity"))
		before := slices.Clone(spare)
		readAll(spare[:len(b)])
		if !bytes.Equal(spare, before) {
			t.Errorf("the bytes were %v, now they are %v", describe(before), describe(spare))
		}
	}
}

// Bytes in the spare capacity are not read, either.
func TestSpareCapacityIsNotRead(t *testing.T) {
	frame := framed(3, []byte("body"))
	checkUnframeError(t, frame[:len(frame)-1], api.ErrCut)
	text := []byte("\x04body")
	checkDecodeText(t, text[:4], "", 0, api.ErrCut)
	checkDecodeUint(t, []byte{172, 2}[:1], 0, 0, api.ErrCut)
}

func overwrite(b []byte) {
	b = b[:cap(b)]
	for i := range b {
		b[i] = 99
	}
}

func TestFrameIsNew(t *testing.T) {
	body := []byte("body")
	first, _ := wire.Frame(3, body)
	second, _ := wire.Frame(3, body)
	overwrite(first)
	overwrite(body)
	if want := framed(3, []byte("body")); !bytes.Equal(second, want) {
		t.Errorf("a frame changes with its body or another frame: %v, want %v", second, want)
	}
}

func TestBodyIsNew(t *testing.T) {
	for _, text := range []string{"body", "b", ""} {
		frame := framed(3, []byte(text))
		kept := slices.Clone(frame)
		_, first, _, _ := wire.Unframe(frame)
		_, second, _, _ := wire.Unframe(frame)
		overwrite(first)
		if !bytes.Equal(frame, kept) {
			t.Errorf("a frame changes with its body: %v, want %v", frame, kept)
		}
		overwrite(frame)
		if string(second) != text {
			t.Errorf("a body changes with its frame or another body: %q, want %q", second, text)
		}
	}
}

func TestEncodingsAreNew(t *testing.T) {
	for _, encode := range []func() ([]byte, api.Errno){
		func() ([]byte, api.Errno) { return wire.EncodeUint(5) },
		func() ([]byte, api.Errno) { return wire.EncodeUint(topUint) },
		func() ([]byte, api.Errno) { return wire.EncodeInt(-1000) },
		func() ([]byte, api.Errno) { return wire.EncodeText("") },
		func() ([]byte, api.Errno) { return wire.EncodeText("text") },
	} {
		first, _ := encode()
		second, _ := encode()
		want := slices.Clone(second)
		overwrite(first)
		third, _ := encode()
		if !bytes.Equal(second, want) || !bytes.Equal(third, want) {
			t.Errorf("an encoding changes with another one: %v, %v, want %v", second, third, want)
		}
	}
}

func TestTextIsNew(t *testing.T) {
	b := []byte("\x04text")
	s, _, _ := wire.DecodeText(b)
	overwrite(b)
	if s != "text" {
		t.Errorf("a text changes with its encoding: %q", s)
	}
}

// R3: a call does not depend on earlier ones.
func TestCallsAreIndependent(t *testing.T) {
	b := framed(3, []byte("body"))
	for range 3 {
		readAll(b)
		readAll(b[:3])
		checkUnframeError(t, b, api.OK)
		checkChecksum(t, []byte("123456789"))
		checkEncodeUint(t, 300, []byte{172, 2})
	}
}
