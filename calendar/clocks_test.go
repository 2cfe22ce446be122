package calendar_test

import (
	"math"
	"regexp"
	"strconv"
	"testing"

	"pairing/api"
	"pairing/calendar"
)

// P6.5

var clockForm = regexp.MustCompile(`^[0-9]{2}:[0-9]{2}$`)

var clocks = reader{"ParseClock", calendar.ParseClock, wantClock}

func wantClock(s string) (int, api.Errno) {
	if !clockForm.MatchString(s) {
		return 0, api.ErrSyntax
	}
	hours, _ := strconv.Atoi(s[:2])
	minutes, _ := strconv.Atoi(s[3:])
	if hours > 23 || minutes > 59 {
		return 0, api.ErrRange
	}
	return 60*hours + minutes, api.OK
}

func TestClocks(t *testing.T) {
	cases := map[string]int{"00:00": 0, "00:01": 1, "00:59": 59, "01:00": 60, "06:05": 365, "09:59": 599, "10:00": 600, "23:00": 1380, "23:59": 1439}
	clocks.checkCases(t, cases)
	for text, clock := range cases {
		if s, e := calendar.FormatClock(clock); s != text || e != api.OK {
			t.Errorf("FormatClock(%d): %q, error %d, want %q", clock, s, e, text)
		}
	}
	clocks.checkErrors(t, api.ErrRange, "24:00", "23:60", "00:60", "00:99", "99:00", "24:60", "25:00", "30:00")
	clocks.checkErrors(t, api.ErrSyntax, "", ":", "6:00", "06:0", "006:00", "06:000", "0600", "06-00", "06;00", "06.00", " 6:00", "06: 0", "-1:00", "+1:00", "06:-1", "06:+1", "06:00 ", " 06:00", "06:00\n", "@06:00", "06:00:00", "x9:99", "99:9x", "24:0", "0:060", "０6:00", "06：00", "HH:MM")
}

func TestEveryClock(t *testing.T) {
	clock := 0
	for hours := range 100 {
		for minutes := range 100 {
			text := strconv.Itoa(100 + hours)[1:] + ":" + strconv.Itoa(100 + minutes)[1:]
			clocks.check(t, text)
			if hours > 23 || minutes > 59 {
				continue
			}
			if s, e := calendar.FormatClock(clock); s != text || e != api.OK {
				t.Errorf("FormatClock(%d): %q, error %d, want %q", clock, s, e, text)
			}
			clock++
		}
	}
	if clock != 1440 {
		t.Errorf("%d clock times", clock)
	}
}

func TestClockForms(t *testing.T) {
	for _, s := range allTexts("02569:- ", 6) {
		clocks.check(t, s)
	}
	for _, s := range []string{"06:05", "23:59", "24:60"} {
		for _, changed := range changedTexts(s) {
			clocks.check(t, changed)
		}
	}
}

func TestFormatFaultyClocks(t *testing.T) {
	checkNoFormat(t, "FormatClock", calendar.FormatClock, -1, -60, -1440, 1440, 1441, 1500, 2879, 6000, 1<<32, 1<<32+60, -1<<32, math.MinInt, math.MaxInt)
	for _, n := range borderNumbers() {
		if n < 0 || n > 1439 {
			checkNoFormat(t, "FormatClock", calendar.FormatClock, n)
		}
	}
}
