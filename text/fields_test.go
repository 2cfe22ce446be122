package text_test

import (
	"slices"
	"strings"
	"testing"

	"pairing/text"
)

// P5.2

func checkFields(t *testing.T, line string, want []string) {
	t.Helper()
	if l := text.Fields(line); !slices.Equal(l, want) {
		t.Errorf("Fields(%q): %d fields %q, want %q", describe(line), len(l), describe(strings.Join(l, " ")), describe(strings.Join(want, " ")))
	}
}

func TestFields(t *testing.T) {
	for _, c := range []struct {
		line string
		want []string
	}{
		{"", nil},
		{" ", nil},
		{"   ", nil},
		{"#", nil},
		{"  # a", nil},
		{"##", nil},
		{"a", []string{"a"}},
		{" a", []string{"a"}},
		{"a ", []string{"a"}},
		{"a  b", []string{"a", "b"}},
		{"  flight AB1  # comment", []string{"flight", "AB1"}},
		{"ab#cd ef", []string{"ab"}},
		{"ab #cd ef", []string{"ab"}},
		{"#ab cd", nil},
		{"a b#c # d", []string{"a", "b"}},
		{"a #\nb", []string{"a"}},
		{"a\nb #", []string{"a\nb"}},
		{"a\tb", []string{"a\tb"}},
		{"a a a", []string{"a", "a", "a"}},
	} {
		checkFields(t, c.line, c.want)
	}
}

// The fields of all short lines, byte by byte.
func TestFieldsOfShortLines(t *testing.T) {
	for _, line := range allTexts(" #a\n\xff", 6) {
		var want []string
		inField := false
		for _, c := range []byte(line) {
			if c == '#' {
				break
			}
			if c != ' ' && !inField {
				want = append(want, "")
			}
			inField = c != ' '
			if inField {
				want[len(want)-1] += string([]byte{c})
			}
		}
		checkFields(t, line, want)
	}
}

func TestFieldsOfEveryByte(t *testing.T) {
	for c := range 256 {
		b := string([]byte{byte(c)})
		switch b {
		case " ":
			checkFields(t, "a b", []string{"a", "b"})
		case "#":
			checkFields(t, "a#b", []string{"a"})
		default:
			checkFields(t, b, []string{b})
			checkFields(t, "a"+b+"b", []string{"a" + b + "b"})
			checkFields(t, "a "+b+" b", []string{"a", b, "b"})
		}
	}
}

// Blanks and number signs are single bytes, whatever they are next to.
func TestFieldsOfRunes(t *testing.T) {
	for _, blank := range []string{"\u00a0", "\u2003", "\u3000", "\u2028", "\u0085", "\v", "\f", "\r", "\uff03", "\u0120", "\u0123"} {
		checkFields(t, "a"+blank+"b", []string{"a" + blank + "b"})
	}
	checkFields(t, "\xe2 \x80", []string{"\xe2", "\x80"})
	checkFields(t, "\xe2#\x80", []string{"\xe2"})
	checkFields(t, "\xf0\x9f \x98\x80", []string{"\xf0\x9f", "\x98\x80"})
}

func TestFieldsOfLongLines(t *testing.T) {
	const n = 100000
	checkFields(t, strings.Repeat("a", n), []string{strings.Repeat("a", n)})
	checkFields(t, strings.Repeat(" ", n), nil)
	checkFields(t, strings.Repeat(" bc ", n)+"#"+strings.Repeat(" d", n), slices.Repeat([]string{"bc"}, n))
}

// R2
func TestFieldsAreNew(t *testing.T) {
	l := text.Fields("a b c")
	l[0] = "changed"
	_ = append(l[:1], "changed", "changed")
	checkFields(t, "a b c", []string{"a", "b", "c"})
}
