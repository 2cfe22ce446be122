package text_test

import (
	"math"
	"math/big"
	"math/rand"
	"regexp"
	"strings"
	"testing"

	"pairing/api"
	"pairing/text"
)

// P5.4

var numberForm = regexp.MustCompile(`^(0|-?[1-9][0-9]{0,9})$`)

func checkParseInt(t *testing.T, s string) {
	t.Helper()
	n, e := text.ParseInt(s)
	if !numberForm.MatchString(s) {
		if n != 0 || e != api.ErrSyntax {
			t.Errorf("ParseInt(%q): %d, error %d, want ErrSyntax", describe(s), n, e)
		}
		return
	}
	want, _ := new(big.Int).SetString(s, 10)
	if e != api.OK || int64(n) != want.Int64() {
		t.Errorf("ParseInt(%q): %d, error %d", describe(s), n, e)
	}
}

func TestParseInt(t *testing.T) {
	for _, c := range []struct {
		s    string
		want int
	}{{"0", 0}, {"7", 7}, {"-7", -7}, {"-12", -12}, {"10", 10}, {"-100", -100}, {"1234567890", 1234567890}, {"4294967296", 1 << 32}, {"-4294967297", -1<<32 - 1}, {"9999999999", 9999999999}, {"-9999999999", -9999999999}, {"-1000000000", -1000000000}} {
		if n, e := text.ParseInt(c.s); n != c.want || e != api.OK {
			t.Errorf("ParseInt(%q): %d, error %d", c.s, n, e)
		}
	}
	for _, s := range []string{"", "-", "--", "+", "+1", "-+1", "+-1", "--1", "1-", "00", "01", "-0", "-00", "-01", "00000000001", "0000000001", "10000000000", "-10000000000", "99999999999", " 1", "1 ", "1\n", "- 1", "1.0", "1,0", "1e3", "0x1", "1_0", "0b1", "0o7", "a", "é", "１", "٣", "\xff", "-\xff", "18446744073709551617", "-18446744073709551617", strings.Repeat("1", 100000)} {
		if n, e := text.ParseInt(s); n != 0 || e != api.ErrSyntax {
			t.Errorf("ParseInt(%q): %d, error %d, want ErrSyntax", describe(s), n, e)
		}
	}
}

func TestParseIntForms(t *testing.T) {
	for _, s := range allTexts("-+019 ", 5) {
		checkParseInt(t, s)
	}
	for _, s := range []string{"0", "5", "-5", "10", "123456789", "-1234567890", "1234567890"} {
		for _, changed := range withEveryByte(s) {
			checkParseInt(t, changed)
		}
	}
	for n := range 25 {
		for _, s := range []string{strings.Repeat("9", n), strings.Repeat("0", n), "1" + strings.Repeat("0", n)} {
			checkParseInt(t, s)
			checkParseInt(t, "-"+s)
		}
	}
}

func numberSamples() []int {
	random := rand.New(rand.NewSource(1))
	l := []int{math.MinInt, math.MinInt + 1, math.MaxInt, math.MaxInt - 1}
	for n := -1200; n <= 1200; n++ {
		l = append(l, n)
	}
	for power := 1; power <= math.MaxInt/10; power *= 10 {
		l = append(l, 10*power-1, 10*power, 10*power+1, -10*power-1, -10*power, -10*power+1)
	}
	for bits := range 63 {
		l = append(l, 1<<bits-1, 1<<bits, -1<<bits, random.Intn(1<<bits), -random.Intn(1<<bits))
	}
	return l
}

func TestFormatInt(t *testing.T) {
	for n, want := range map[int]string{0: "0", 7: "7", -7: "-7", 10: "10", -100: "-100", math.MaxInt64: "9223372036854775807", math.MinInt64: "-9223372036854775808"} {
		if s := text.FormatInt(n); s != want {
			t.Errorf("FormatInt(%d): %q", n, s)
		}
	}
	for _, n := range numberSamples() {
		if s := text.FormatInt(n); s != big.NewInt(int64(n)).String() {
			t.Errorf("FormatInt(%d): %q", n, s)
		}
	}
}

// A number is read back as it was written, if it has at most ten digits.
func TestFormatAndParse(t *testing.T) {
	for _, n := range numberSamples() {
		s := text.FormatInt(n)
		got, e := text.ParseInt(s)
		if n > 9999999999 || n < -9999999999 {
			if got != 0 || e != api.ErrSyntax {
				t.Errorf("ParseInt(%q): %d, error %d, want ErrSyntax", s, got, e)
			}
			continue
		}
		if got != n || e != api.OK {
			t.Errorf("ParseInt(%q): %d, error %d", s, got, e)
		}
	}
}
