package text_test

import (
	"slices"
	"strings"
	"testing"

	"pairing/api"
	"pairing/text"
)

// P5.1

func checkLines(t *testing.T, s string, want []string) {
	t.Helper()
	l, e := text.Lines(s)
	if e != api.OK || !slices.Equal(l, want) {
		t.Errorf("Lines(%q): %q, error %d, want %q", describe(s), describe(strings.Join(l, "\n")), e, describe(strings.Join(want, "\n")))
	}
}

func checkLinesError(t *testing.T, s string, want api.Errno) {
	t.Helper()
	l, e := text.Lines(s)
	if e != want || len(l) != 0 {
		t.Errorf("Lines(%q): %d lines, error %d, want %s", describe(s), len(l), e, errorNames[want])
	}
}

func TestLines(t *testing.T) {
	for _, c := range []struct {
		s    string
		want []string
	}{
		{"", nil},
		{"\n", []string{""}},
		{"\n\n", []string{"", ""}},
		{"a", []string{"a"}},
		{"a\n", []string{"a"}},
		{"a\n\n", []string{"a", ""}},
		{"\na", []string{"", "a"}},
		{"\n\na\nb", []string{"", "", "a", "b"}},
		{"one two\n three # 3\n~!\n", []string{"one two", " three # 3", "~!"}},
		{" ", []string{" "}},
		{" \n ", []string{" ", " "}},
		{"#", []string{"#"}},
	} {
		checkLines(t, c.s, c.want)
	}
}

// The lines of all short texts, byte by byte.
func TestLinesOfShortTexts(t *testing.T) {
	for _, s := range allTexts("\n a#", 6) {
		var want []string
		line := ""
		for i, c := range []byte(s) {
			if c != '\n' {
				line += string(rune(c))
			}
			if c == '\n' || i == len(s)-1 {
				want = append(want, line)
				line = ""
			}
		}
		checkLines(t, s, want)
	}
}

func TestLinesOfEveryByte(t *testing.T) {
	for c := range 256 {
		b := string([]byte{byte(c)})
		switch {
		case c == 10:
			checkLines(t, b, []string{""})
			checkLines(t, "a"+b+"b", []string{"a", "b"})
		case c >= 32 && c <= 126:
			checkLines(t, b, []string{b})
			checkLines(t, "a"+b+"b\n"+b, []string{"a" + b + "b", b})
		default:
			for _, s := range []string{b, b + "a", "a" + b, "a" + b + "b", "\n" + b, b + "\n", "a\n" + b + "\nb"} {
				checkLinesError(t, s, api.ErrSyntax)
			}
		}
	}
	for _, s := range []string{"é", "a\r\nb", "\ufeffa", "\u2028", "\u00a0", "a\tb", "\ufffd"} {
		checkLinesError(t, s, api.ErrSyntax)
	}
}

func TestLinesLimits(t *testing.T) {
	long := strings.Repeat("x", api.MaxText)
	checkLines(t, long, []string{long})
	checkLines(t, long[1:]+"\n", []string{long[1:]})
	checkLinesError(t, long+"x", api.ErrTooLarge)
	checkLinesError(t, long+"\n", api.ErrTooLarge)

	empty := strings.Repeat("\n", api.MaxLines)
	checkLines(t, empty, make([]string, api.MaxLines))
	checkLines(t, empty[1:], make([]string, api.MaxLines-1))
	checkLines(t, empty[1:]+"x", append(make([]string, api.MaxLines-1), "x"))
	checkLines(t, "x"+empty, append([]string{"x"}, make([]string, api.MaxLines-1)...))
	checkLinesError(t, empty+"x", api.ErrTooLarge)
	checkLinesError(t, empty+"\n", api.ErrTooLarge)
	checkLinesError(t, empty+"\nx", api.ErrTooLarge)

	wide := strings.Repeat(strings.Repeat("y", api.MaxText/api.MaxLines-1)+"\n", api.MaxLines)
	checkLines(t, wide, slices.Repeat([]string{wide[:api.MaxText/api.MaxLines-1]}, api.MaxLines))
}

func TestLinesOrderOfErrors(t *testing.T) {
	checkLinesError(t, strings.Repeat("\t", api.MaxText+1), api.ErrTooLarge)
	checkLinesError(t, strings.Repeat("x", api.MaxText)+"\x00", api.ErrTooLarge)
	checkLinesError(t, strings.Repeat("x", api.MaxText-1)+"\x00", api.ErrSyntax)
	checkLinesError(t, strings.Repeat("\n", api.MaxText+1), api.ErrTooLarge)
	many := strings.Repeat("\n", api.MaxLines+1)
	checkLinesError(t, many+"\x7f", api.ErrSyntax)
	checkLinesError(t, "\x7f"+many, api.ErrSyntax)
	checkLinesError(t, many, api.ErrTooLarge)
}

// R2
func TestLinesAreNew(t *testing.T) {
	l, _ := text.Lines("a\nb\nc\n")
	l[0] = "changed"
	_ = append(l[:1], "changed", "changed")
	checkLines(t, "a\nb\nc\n", []string{"a", "b", "c"})
}
