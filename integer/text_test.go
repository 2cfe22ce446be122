package integer_test

import (
	"math/big"
	"math/rand"
	"regexp"
	"strings"
	"testing"

	"pairing/api"
	"pairing/integer"
)

// P1.2

func checkParse(t *testing.T, s string, form *regexp.Regexp) {
	t.Helper()
	a, e := integer.Parse(s)
	if !form.MatchString(s) {
		checkZero(t, a, s)
		if e != api.ErrSyntax {
			t.Errorf("Parse(%q): error %d", s, e)
		}
		return
	}
	if e != api.OK {
		t.Errorf("Parse(%q): error %d", s, e)
	}
	checkInt(t, a, bigOf(t, s), "Parse", s)
}

// All short texts over an alphabet with the neighbours of the digits.
func TestParseShort(t *testing.T) {
	form := regexp.MustCompile(`^(0|-?[1-9][0-9]*)$`)
	texts := []string{""}
	for n := 0; n < len(texts) && len(texts[n]) < 4; n++ {
		for _, c := range "-019/:+ ._e\n" {
			texts = append(texts, texts[n]+string(c))
		}
	}
	for _, s := range texts {
		checkParse(t, s, form)
	}
	for c := range 256 {
		checkParse(t, string([]byte{byte(c)}), form)
		checkParse(t, string([]byte{'1', byte(c)}), form)
		checkParse(t, string([]byte{byte(c), '1'}), form)
	}
	for _, s := range []string{"007", "-0", "--1", "0x1", "1_000", "٣", "１", "-00", "12a45678901234567890", "1234567890123456789o", "99999999999999999999-"} {
		checkParse(t, s, form)
	}
}

func TestParseValues(t *testing.T) {
	for _, x := range samples() {
		checkInt(t, mustParse(t, x.String()), x, "Parse", x)
	}
	random := rand.New(rand.NewSource(2))
	for range 500 {
		b := []byte{'1' + byte(random.Intn(9))}
		for range random.Intn(399) {
			b = append(b, "0099123456789"[random.Intn(13)])
		}
		s := string(b)
		checkInt(t, mustParse(t, s), bigOf(t, s), "Parse", s)
	}
}

func TestParseLength(t *testing.T) {
	for _, s := range []string{strings.Repeat("9", 400), "-" + strings.Repeat("9", 399), "1" + strings.Repeat("0", 399)} {
		checkInt(t, mustParse(t, s), bigOf(t, s), "Parse", s)
	}
	for _, s := range []string{strings.Repeat("9", 401), "-" + strings.Repeat("9", 400), strings.Repeat("0", 401), strings.Repeat("x", 401), strings.Repeat("-", 1000)} {
		a, e := integer.Parse(s)
		checkZero(t, a, s)
		if e != api.ErrTooLarge {
			t.Errorf("Parse(%q): error %d", s, e)
		}
	}
	for _, s := range []string{strings.Repeat("0", 400), strings.Repeat("9", 399) + "x", strings.Repeat("ä", 200)} {
		if _, e := integer.Parse(s); e != api.ErrSyntax {
			t.Errorf("Parse(%q): error %d", s, e)
		}
	}
}

func TestFormat(t *testing.T) {
	for _, x := range samples() {
		for _, a := range disguises(x) {
			if s := integer.Format(a); s != x.String() {
				t.Errorf("Format of %v: %s", a, s)
			}
		}
	}
}

func TestFormatAnySize(t *testing.T) {
	random := rand.New(rand.NewSource(3))
	for n := range 120 {
		x := randomInt(random, n)
		if s := integer.Format(fromBig(x)); s != x.String() {
			t.Errorf("Format of %v: %s", x, s)
		}
		x.Exp(big.NewInt(10), big.NewInt(int64(10*n)), nil)
		for range 2 {
			if s := integer.Format(fromBig(x)); s != x.String() {
				t.Errorf("Format of %v: %s", x, s)
			}
			x.Sub(x, big.NewInt(1))
		}
	}
	x := randomInt(random, 3000)
	if integer.Format(fromBig(x)) != x.String() {
		t.Error("Format of a number of 3000 digits")
	}
}
