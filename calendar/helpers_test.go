package calendar_test

import (
	"math"
	"strings"
	"testing"
	"time"

	"pairing/api"
)

const (
	firstDay = -365  // 1999-01-01
	lastDay  = 36889 // 2100-12-31
)

// timeOf returns the midnight at which a day begins, of a date whose parts may
// exceed their ranges.
func timeOf(d api.Date) time.Time {
	return time.Date(d.Year, time.Month(d.Month), d.Day, 0, 0, 0, 0, time.UTC)
}

// timeOfDay returns the midnight at which the day with a number begins.
func timeOfDay(day int) time.Time {
	return timeOf(api.Date{Year: 2000, Month: 1, Day: 1 + day})
}

func dateOfTime(t time.Time) api.Date {
	return api.Date{Year: t.Year(), Month: int(t.Month()), Day: t.Day()}
}

// isDate is the definition of the dates of P6.1.
func isDate(d api.Date) bool {
	return d.Year >= 1999 && d.Year <= 2100 && dateOfTime(timeOf(d)) == d
}

// faultyDates returns dates that are not those of P6.1.
func faultyDates() []api.Date {
	l := []api.Date{{}, {Year: 2000}, {Month: 1, Day: 1}, {Year: 2001, Month: 2, Day: 29}, {Year: 2100, Month: 2, Day: 29}, {Year: 1998, Month: 12, Day: 31}, {Year: 2101, Month: 1, Day: 1}}
	for _, n := range []int{math.MinInt, math.MinInt + 1, -1 << 32, -1 << 31, -2000, -1, 0, 32, 99, 1 << 31, 1<<32 + 1, math.MaxInt - 1, math.MaxInt} {
		l = append(l, api.Date{Year: n, Month: 1, Day: 1}, api.Date{Year: 2000, Month: n, Day: 1}, api.Date{Year: 2000, Month: 1, Day: n}, api.Date{Year: n, Month: n, Day: n})
	}
	// Parts whose low bits alone would be a date.
	for _, bits := range []int{8, 16, 32} {
		l = append(l, api.Date{Year: 2000 + 1<<bits, Month: 1, Day: 1}, api.Date{Year: 2000, Month: 1 + 1<<bits, Day: 1}, api.Date{Year: 2000, Month: 1, Day: 1 + 1<<bits})
	}
	return l
}

// borderNumbers returns ints around the powers of two and around the ends of
// their type.
func borderNumbers() []int {
	l := []int{math.MinInt, math.MinInt + 1, math.MaxInt - 1, math.MaxInt}
	for n := range 3000 {
		l = append(l, n, -n, math.MinInt+n, math.MaxInt-n)
	}
	for bits := range 63 {
		l = append(l, 1<<bits-1, 1<<bits, 1<<bits+1, -1<<bits-1, -1<<bits, -1<<bits+1)
	}
	return l
}

// allTexts returns all texts of at most n bytes from an alphabet.
func allTexts(alphabet string, n int) []string {
	texts := []string{""}
	for i := 0; i < len(texts) && len(texts[i]) < n; i++ {
		for _, c := range []byte(alphabet) {
			texts = append(texts, texts[i]+string([]byte{c}))
		}
	}
	return texts
}

// changedTexts returns s with each of the 256 bytes in the place of each of
// its bytes and between each two of them, s without each of its bytes, and s
// with some longer insertions in each place.
func changedTexts(s string) []string {
	var texts []string
	for at := range len(s) + 1 {
		for c := range 256 {
			b := string([]byte{byte(c)})
			texts = append(texts, s[:at]+b+s[at:])
			if at < len(s) {
				texts = append(texts, s[:at]+b+s[at+1:])
			}
		}
		for _, more := range []string{"é", "１", "٣", "－", "：", "\u00a0", "00", "::", "--", "  "} {
			texts = append(texts, s[:at]+more+s[at:])
			if at+len(more) <= len(s) {
				texts = append(texts, s[:at]+more+s[at+len(more):])
			}
		}
		texts = append(texts, s[:at], s[at:])
		if at < len(s) {
			texts = append(texts, s[:at]+s[at+1:])
		}
	}
	return append(texts, "", s+s, strings.Repeat(s, 10000), strings.Repeat("0", 100000))
}

// describe cuts a long text for a message.
func describe(s string) string {
	if len(s) > 60 {
		return s[:60] + ".."
	}
	return s
}

// reader checks a function that reads numbers from texts.
type reader struct {
	name  string
	parse func(string) (int, api.Errno)
	want  func(string) (int, api.Errno)
}

func (r reader) check(t *testing.T, s string) {
	t.Helper()
	n, e := r.parse(s)
	if want, wantError := r.want(s); n != want || e != wantError {
		t.Errorf("%s(%q): %d, error %d, want %d, error %d", r.name, describe(s), n, e, want, wantError)
	}
}

// checkCases checks texts with their numbers.
func (r reader) checkCases(t *testing.T, cases map[string]int) {
	t.Helper()
	for s, want := range cases {
		if n, e := r.parse(s); n != want || e != api.OK {
			t.Errorf("%s(%q): %d, error %d, want %d", r.name, describe(s), n, e, want)
		}
	}
}

// checkErrors checks texts that have all the same error.
func (r reader) checkErrors(t *testing.T, want api.Errno, texts ...string) {
	t.Helper()
	for _, s := range texts {
		if n, e := r.parse(s); n != 0 || e != want {
			t.Errorf("%s(%q): %d, error %d, want error %d", r.name, describe(s), n, e, want)
		}
	}
}

// checkNoFormat checks numbers that have no form.
func checkNoFormat(t *testing.T, name string, format func(int) (string, api.Errno), numbers ...int) {
	t.Helper()
	for _, n := range numbers {
		if s, e := format(n); s != "" || e != api.ErrRange {
			t.Errorf("%s(%d): %q, error %d, want ErrRange", name, n, s, e)
		}
	}
}
