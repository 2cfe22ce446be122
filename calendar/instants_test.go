package calendar_test

import (
	"math"
	"testing"
	"time"

	"pairing/api"
	"pairing/calendar"
)

// P6.7

var instants = reader{"ParseInstant", calendar.ParseInstant, wantInstant}

func wantInstant(s string) (int, api.Errno) {
	if len(s) != 16 || !dateForm.MatchString(s[:10]) || s[10] != ' ' || !clockForm.MatchString(s[11:]) {
		return 0, api.ErrSyntax
	}
	d, e := wantDate(s[:10])
	if e != api.OK {
		return 0, e
	}
	clock, e := wantClock(s[11:])
	if e != api.OK {
		return 0, e
	}
	n := int(timeOf(d).Sub(timeOfDay(0)).Minutes()) + clock
	if n < 0 || n >= api.MaxMinute {
		return 0, api.ErrRange
	}
	return n, api.OK
}

func checkInstant(t *testing.T, text string, n int) {
	t.Helper()
	if got, e := calendar.ParseInstant(text); got != n || e != api.OK {
		t.Errorf("ParseInstant(%q): %d, error %d, want %d", text, got, e, n)
	}
	if s, e := calendar.FormatInstant(n); s != text || e != api.OK {
		t.Errorf("FormatInstant(%d): %q, error %d, want %q", n, s, e, text)
	}
}

func TestInstants(t *testing.T) {
	for text, n := range map[string]int{"2000-01-01 00:00": 0, "2000-01-01 00:01": 1, "2000-01-01 23:59": 1439, "2000-01-02 00:00": 1440, "2000-01-02 00:30": 1470, "2000-03-01 12:00": 60*1440 + 720, "2026-11-20 13:45": 9820*1440 + 825, "2099-12-31 23:59": api.MaxMinute - 1, "2099-12-31 00:00": api.MaxMinute - 1440} {
		checkInstant(t, text, n)
	}
}

func TestInstantsOfEveryDay(t *testing.T) {
	for n := 0; n < api.MaxMinute; n += 719 {
		checkInstant(t, textOfMinute(n), n)
	}
	for day := 0; day < api.MaxMinute/1440; day++ {
		checkInstant(t, textOfMinute(1440*day), 1440*day)
		checkInstant(t, textOfMinute(1440*day+1439), 1440*day+1439)
	}
	for clock := range 1440 {
		checkInstant(t, textOfMinute(59*1440+clock), 59*1440+clock)
	}
}

func textOfMinute(n int) string {
	return timeOfDay(0).Add(time.Duration(n) * time.Minute).Format("2006-01-02 15:04")
}

func TestParseInstantErrors(t *testing.T) {
	instants.checkErrors(t, api.ErrRange, "1999-12-31 23:59", "1999-01-01 00:00", "2100-01-01 00:00", "2100-12-31 23:59", "1998-12-31 00:00", "2101-01-01 00:00", "0000-00-00 00:00", "9999-99-99 99:99", "2000-02-30 00:00", "2001-02-29 00:00", "2000-13-01 00:00", "2000-00-01 00:00", "2000-01-00 00:00", "2000-01-01 24:00", "2000-01-01 23:60", "1999-12-31 24:00", "2099-12-31 24:00", "2000-13-01 24:00")
	instants.checkErrors(t, api.ErrSyntax, "", " ", "2000-01-01", "2000-01-01 ", "00:00", " 00:00", "2000-01-01 0:00", "2000-01-01 000:00", "2000-1-01 00:00", "2000-01-1 00:00", "2000-1-01  00:00", "2000-01-01  0:00", "2000-01-01  00:00", "2000-01-01T00:00", "2000-01-01\t00:00", "2000-01-01\n00:00", "2000-01-01-00:00", "2000-01-01_00:00", "2000-01-0100:00", "2000-01-01 00:00 ", " 2000-01-01 00:00", "2000-01-01 00:00\n", "2000-01-01 00:00:00", "2000-01-01 00:00Z", "2000-01-01 0000", "2000-01-01 00-00", "2000:01:01 00:00", "00:00 2000-01-01", "2000-13-01 x0:00", "x000-01-01 24:00", "2000-13-01 24-00", "2000/13/01 24:00", "2000-13-01", "1999-12-31 2:59")
}

func TestInstantForms(t *testing.T) {
	for _, s := range []string{"2000-01-01 00:00", "2099-12-31 23:59", "2024-02-29 12:34", "1999-12-31 24:60"} {
		for _, changed := range changedTexts(s) {
			instants.check(t, changed)
		}
	}
	for _, date := range []string{"", "2000-01-01", "2099-12-31", "2100-01-01", "1999-12-31", "2000-02-30", "2000-02-3", "2000-13-32", "1000-01-01", "2000/01/01"} {
		for _, between := range []string{"", " ", "  ", "T", "-", "\t"} {
			for _, clock := range []string{"", "00:00", "23:59", "24:00", "00:60", "0:00", "99:99", "00.00"} {
				instants.check(t, date+between+clock)
			}
		}
	}
}

func TestFormatFaultyInstants(t *testing.T) {
	checkNoFormat(t, "FormatInstant", calendar.FormatInstant, -1, -2, -1440, api.MaxMinute, api.MaxMinute+1, api.MaxMinute+1440, 2*api.MaxMinute, math.MinInt, math.MaxInt)
	for n := range 600000 {
		checkNoFormat(t, "FormatInstant", calendar.FormatInstant, -1-n, api.MaxMinute+n)
	}
	for _, n := range borderNumbers() {
		if n < 0 || n >= api.MaxMinute {
			checkNoFormat(t, "FormatInstant", calendar.FormatInstant, n)
		}
	}
}
