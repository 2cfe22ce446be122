package text_test

import (
	"regexp"
	"strings"
	"testing"

	"pairing/api"
	"pairing/text"
)

// P5.3

var forms = []struct {
	call string
	is   func(string) bool
	form *regexp.Regexp
}{
	{"IsName", text.IsName, regexp.MustCompile("^[a-z][a-z0-9_]{0,15}$")},
	{"IsCode", text.IsCode, regexp.MustCompile("^[A-Z0-9]{1,8}$")},
	{"IsAirport", text.IsAirport, regexp.MustCompile("^[A-Z]{3}$")},
}

func checkNames(t *testing.T, s string) {
	t.Helper()
	for _, c := range forms {
		if got := c.is(s); got != c.form.MatchString(s) {
			t.Errorf("%s(%q): %v", c.call, describe(s), got)
		}
	}
}

func TestNames(t *testing.T) {
	for _, c := range []struct {
		s                   string
		name, code, airport bool
	}{
		{"", false, false, false},
		{"a", true, false, false},
		{"z9_", true, false, false},
		{"a__", true, false, false},
		{"_", false, false, false},
		{"_a", false, false, false},
		{"0a", false, false, false},
		{"aB", false, false, false},
		{"A", false, true, false},
		{"0", false, true, false},
		{"00000000", false, true, false},
		{"AZ09", false, true, false},
		{"AZ", false, true, false},
		{"AZB", false, true, true},
		{"ZZZ", false, true, true},
		{"AZBC", false, true, false},
		{"A1B", false, true, false},
		{"Aza", false, false, false},
		{"AZ_", false, false, false},
		{" AZ", false, false, false},
		{"AZB\n", false, false, false},
		{"az\n", false, false, false},
		{"ÄB", false, false, false},
		{"äb", false, false, false},
		{"ab\x00", false, false, false},
	} {
		if name, code, airport := text.IsName(c.s), text.IsCode(c.s), text.IsAirport(c.s); name != c.name || code != c.code || airport != c.airport {
			t.Errorf("%q: %v, %v, %v", c.s, name, code, airport)
		}
	}
}

func TestNamesOfEveryByte(t *testing.T) {
	for _, s := range []string{"", "a", "A", "7", "_", "ab_9", "ABC", "AB", "A1B2", "abcdefg", "ABCDEFG"} {
		for _, changed := range withEveryByte(s) {
			checkNames(t, changed)
		}
	}
}

func TestNamesOfShortTexts(t *testing.T) {
	for _, s := range allTexts("aA0_ ", 4) {
		checkNames(t, s)
	}
}

func TestLengthsOfNames(t *testing.T) {
	if api.MaxName != 16 {
		t.Fatal("the forms of these tests have 16 bytes")
	}
	for _, c := range []string{"a", "A", "0", "a0", "A0", "_", "é"} {
		for n := range 40 {
			checkNames(t, strings.Repeat(c, n))
		}
		checkNames(t, strings.Repeat(c, 100000))
	}
}

// Letters and digits of other alphabets are none.
func TestNamesOfRunes(t *testing.T) {
	for _, c := range []string{"é", "É", "ß", "ａ", "Ａ", "１", "٣", "Ω", "\xff", "\u212a", "\u017f"} {
		for _, s := range []string{c, "a" + c, "A" + c, c + "a", c + "A", c + c, c + c + c} {
			if text.IsName(s) || text.IsCode(s) || text.IsAirport(s) {
				t.Errorf("%q is taken for a name", s)
			}
		}
	}
}
