package calendar_test

import (
	"regexp"
	"strconv"
	"strings"
	"testing"
	"time"

	"pairing/api"
	"pairing/calendar"
)

// P6.4

var dateForm = regexp.MustCompile(`^[0-9]{4}-[0-9]{2}-[0-9]{2}$`)

func wantDate(s string) (api.Date, api.Errno) {
	if !dateForm.MatchString(s) {
		return api.Date{}, api.ErrSyntax
	}
	var parts [3]int
	for i, part := range strings.Split(s, "-") {
		parts[i], _ = strconv.Atoi(part)
	}
	d := api.Date{Year: parts[0], Month: parts[1], Day: parts[2]}
	if !isDate(d) {
		return api.Date{}, api.ErrRange
	}
	return d, api.OK
}

func checkParseDate(t *testing.T, s string) {
	t.Helper()
	d, e := calendar.ParseDate(s)
	if want, wantError := wantDate(s); d != want || e != wantError {
		t.Errorf("ParseDate(%q): %v, error %d, want %v, error %d", describe(s), d, e, want, wantError)
	}
}

func TestEveryDateText(t *testing.T) {
	for day := firstDay; day <= lastDay; day++ {
		at := timeOfDay(day)
		want, text := dateOfTime(at), at.Format(time.DateOnly)
		if d, e := calendar.ParseDate(text); d != want || e != api.OK {
			t.Errorf("ParseDate(%q): %v, error %d", text, d, e)
		}
		if s, e := calendar.FormatDate(want); s != text || e != api.OK {
			t.Errorf("FormatDate(%v): %q, error %d", want, s, e)
		}
	}
}

func TestParseDateErrors(t *testing.T) {
	for want, texts := range map[api.Errno][]string{
		api.ErrSyntax: {"", "2026-1-16", "2026-11-6", "26-11-16", "02026-11-16", "2026-011-16", "2026-11-016", "2026-11-16 ", " 2026-11-16", "2026-11-16\n", "2026/11/16", "2026-11/16", "20261116", "2026-1116", "-026-11-16", "+026-11-16", "2026--1-16", "2026-11--6", "2026-+1-16", "2026- 1-16", "2026-11-1x", "2026-13-0x", "x026-99-99", "9999-x1-01", "0000-00-0", "２０２６-11-16", "2026-11-１", "2026-11-16T", "2026-11-16 00:00", "YYYY-MM-DD", "0x7e-01-01", "1e03-01-01"},
		api.ErrRange:  {"1998-12-31", "2101-01-01", "0000-00-00", "9999-99-99", "2026-00-01", "2026-13-01", "2026-01-00", "2026-01-32", "2026-02-29", "2100-02-29", "2000-02-30", "2026-04-31", "2026-99-01", "2026-01-99", "0000-01-01"},
	} {
		for _, s := range texts {
			if d, e := calendar.ParseDate(s); d != (api.Date{}) || e != want {
				t.Errorf("ParseDate(%q): %v, error %d, want error %d", s, d, e, want)
			}
		}
	}
}

func TestParseDateForms(t *testing.T) {
	for _, s := range []string{"2026-11-16", "1999-01-01", "2100-12-31", "2024-02-29", "2026-13-32"} {
		for _, changed := range changedTexts(s) {
			checkParseDate(t, changed)
		}
	}
	// Each pair of two digits, in each of its places.
	for n := range 100 {
		pair := strconv.Itoa(100 + n)[1:]
		for _, s := range []string{pair + "00-01-01", "20" + pair + "-02-29", "2024-" + pair + "-31", "2024-" + pair + "-01", "2024-02-" + pair, "2025-02-" + pair, "2024-04-" + pair, "2024-12-" + pair} {
			checkParseDate(t, s)
		}
	}
}

func TestFormatFaultyDates(t *testing.T) {
	for _, d := range faultyDates() {
		if s, e := calendar.FormatDate(d); s != "" || e != api.ErrRange {
			t.Errorf("FormatDate(%v): %q, error %d, want ErrRange", d, s, e)
		}
	}
	for year := 1990; year <= 2110; year++ {
		for month := -2; month <= 14; month++ {
			for day := -2; day <= 34; day++ {
				d := api.Date{Year: year, Month: month, Day: day}
				if s, e := calendar.FormatDate(d); !isDate(d) && (s != "" || e != api.ErrRange) {
					t.Errorf("FormatDate(%v): %q, error %d, want ErrRange", d, s, e)
				}
			}
		}
	}
}
