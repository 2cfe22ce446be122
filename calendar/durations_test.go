package calendar_test

import (
	"math"
	"math/big"
	"math/rand"
	"regexp"
	"strings"
	"testing"

	"pairing/api"
	"pairing/calendar"
)

// P6.6

var durationForm = regexp.MustCompile(`^-?(0|[1-9][0-9]{0,10}):[0-9]{2}$`)

var durations = reader{"ParseDuration", calendar.ParseDuration, wantDuration}

func wantDuration(s string) (int, api.Errno) {
	if !durationForm.MatchString(s) || s == "-0:00" {
		return 0, api.ErrSyntax
	}
	size, negative := strings.CutPrefix(s, "-")
	hours, _ := new(big.Int).SetString(size[:len(size)-3], 10)
	minutes, _ := new(big.Int).SetString(size[len(size)-2:], 10)
	n := new(big.Int).Mul(hours, big.NewInt(60))
	n.Add(n, minutes)
	if minutes.Int64() > 59 || n.Cmp(big.NewInt(api.MaxValue)) > 0 {
		return 0, api.ErrRange
	}
	if negative {
		n.Neg(n)
	}
	return int(n.Int64()), api.OK
}

func checkFormatDuration(t *testing.T, n int, want string) {
	t.Helper()
	if s, e := calendar.FormatDuration(n); s != want || e != api.OK {
		t.Errorf("FormatDuration(%d): %q, error %d, want %q", n, s, e, want)
	}
}

func TestDurations(t *testing.T) {
	cases := map[string]int{"0:00": 0, "0:01": 1, "-0:01": -1, "-0:15": -15, "0:59": 59, "-0:59": -59, "1:00": 60, "-1:00": -60, "1:05": 65, "-1:05": -65, "9:59": 599, "10:00": 600, "24:00": 1440, "100:30": 6030, "-9999:59": -599999, "71582788:16": 1 << 32, "9999999999:59": 599999999999, "10000000000:00": 600000000000, "18325193796:16": api.MaxValue, "-18325193796:16": -api.MaxValue, "18325193796:15": api.MaxValue - 1, "-18325193796:15": 1 - api.MaxValue}
	durations.checkCases(t, cases)
	for text, n := range cases {
		checkFormatDuration(t, n, text)
	}
}

func TestParseDurationErrors(t *testing.T) {
	durations.checkErrors(t, api.ErrSyntax, "", "-", ":", "-:", "0", "-0", "1", "60", "-0:00", "00:00", "01:00", "-00:01", "-01:00", "00:60", "01:60", ":30", "-:30", "1:", "1:5", "1:055", "1:-5", "1:+5", "1: 5", "1 :05", " 1:05", "1:05 ", "1:05\n", "--1:00", "-+1:00", "+-1:00", "+1:00", "- 1:00", "1-:00", "1:00-", "1:00:00", "1::00", "0:0:00", "1.5:00", "1e3:00", "0x1:00", "1_0:00", "x:00", "1:0x", "100000000000:00", "-100000000000:00", "000000000001:00", "999999999999:99", "18446744073709551617:00", "１:00", "1:０0", "1：00", "@1:00", strings.Repeat("1", 100000)+":00")
	durations.checkErrors(t, api.ErrRange, "0:60", "-0:60", "0:99", "-0:99", "1:60", "-1:60", "1:99", "18325193796:17", "-18325193796:17", "18325193796:59", "18325193797:00", "-18325193797:00", "18325193796:60", "18325193795:76", "-18325193795:76", "99999999999:59", "-99999999999:59", "99999999999:99")
}

func TestDurationForms(t *testing.T) {
	for _, s := range allTexts("-0169: ", 6) {
		durations.check(t, s)
	}
	for _, s := range []string{"0:00", "-0:15", "7:30", "-12:05", "12345678901:23", "-18325193796:16", "1:75"} {
		for _, changed := range changedTexts(s) {
			durations.check(t, changed)
		}
	}
	for n := range 25 {
		for _, hours := range []string{strings.Repeat("9", n), strings.Repeat("1", n), strings.Repeat("0", n), "1" + strings.Repeat("0", n)} {
			for _, minutes := range []string{":00", ":59", ":60"} {
				durations.check(t, hours+minutes)
				durations.check(t, "-"+hours+minutes)
			}
		}
	}
}

// Each duration is the only one that its text denotes, and its text the only
// one that denotes it.
func TestDurationsThereAndBack(t *testing.T) {
	random := rand.New(rand.NewSource(6))
	numbers := []int{api.MaxValue, -api.MaxValue}
	for n := range 100000 {
		numbers = append(numbers, n, -n, 60*n, -60*n, api.MaxValue-n, n-api.MaxValue, random.Intn(api.MaxValue), -random.Intn(api.MaxValue))
	}
	for power := 60; power < api.MaxValue; power *= 10 {
		numbers = append(numbers, power-1, power, power+1, 1-power, -power, -1-power)
	}
	for _, n := range numbers {
		s, e := calendar.FormatDuration(n)
		if !durationForm.MatchString(s) || e != api.OK {
			t.Errorf("FormatDuration(%d): %q, error %d", n, s, e)
		}
		if want, e := wantDuration(s); want != n || e != api.OK {
			t.Errorf("FormatDuration(%d): %q denotes %d, error %d", n, s, want, e)
		}
		durations.check(t, s)
	}
}

func TestFormatFaultyDurations(t *testing.T) {
	checkNoFormat(t, "FormatDuration", calendar.FormatDuration, api.MaxValue+1, -api.MaxValue-1, api.MaxValue+60, 2*api.MaxValue, -2*api.MaxValue, math.MinInt, math.MinInt+1, math.MaxInt)
	for _, n := range borderNumbers() {
		if n < -api.MaxValue || n > api.MaxValue {
			checkNoFormat(t, "FormatDuration", calendar.FormatDuration, n)
		}
	}
}
