package calendar_test

import (
	"math"
	"testing"

	"pairing/api"
	"pairing/calendar"
)

// P6.2

// lengthOfMonth returns the number of the last day of a month, which precedes
// the first day of the next one.
func lengthOfMonth(year, month int) int {
	return timeOf(api.Date{Year: year, Month: month + 1}).Day()
}

func TestDaysInMonth(t *testing.T) {
	for year := -1; year <= 4000; year++ {
		for month := -13; month <= 26; month++ {
			n, e := calendar.DaysInMonth(year, month)
			if year < 1999 || year > 2100 || month < 1 || month > 12 {
				if n != 0 || e != api.ErrRange {
					t.Errorf("DaysInMonth(%d, %d): %d, error %d, want ErrRange", year, month, n, e)
				}
			} else if want := lengthOfMonth(year, month); n != want || e != api.OK {
				t.Errorf("DaysInMonth(%d, %d): %d, error %d, want %d", year, month, n, e, want)
			}
		}
	}
	for _, c := range []struct{ year, month, want int }{{2000, 2, 29}, {2100, 2, 28}, {2024, 2, 29}, {2026, 2, 28}, {1999, 2, 28}, {1999, 1, 31}, {2100, 12, 31}, {2000, 4, 30}, {2000, 7, 31}, {2000, 8, 31}, {2000, 11, 30}} {
		if n, e := calendar.DaysInMonth(c.year, c.month); n != c.want || e != api.OK {
			t.Errorf("DaysInMonth(%d, %d): %d, error %d, want %d", c.year, c.month, n, e, c.want)
		}
	}
}

func TestDaysInMonthOfFaultyMonths(t *testing.T) {
	for _, d := range faultyDates() {
		if d.Year >= 1999 && d.Year <= 2100 && d.Month >= 1 && d.Month <= 12 {
			continue
		}
		if n, e := calendar.DaysInMonth(d.Year, d.Month); n != 0 || e != api.ErrRange {
			t.Errorf("DaysInMonth(%d, %d): %d, error %d, want ErrRange", d.Year, d.Month, n, e)
		}
	}
}

func checkAddMonths(t *testing.T, d api.Date, n int, want api.Date) {
	t.Helper()
	if got, e := calendar.AddMonths(d, n); got != want || e != api.OK {
		t.Errorf("AddMonths(%v, %d): %v, error %d, want %v", d, n, got, e, want)
	}
}

func checkAddMonthsError(t *testing.T, d api.Date, n int) {
	t.Helper()
	if got, e := calendar.AddMonths(d, n); got != (api.Date{}) || e != api.ErrRange {
		t.Errorf("AddMonths(%v, %d): %v, error %d, want ErrRange", d, n, got, e)
	}
}

func TestAddMonths(t *testing.T) {
	for _, c := range []struct {
		d    api.Date
		n    int
		want api.Date
	}{
		{api.Date{Year: 2026, Month: 1, Day: 31}, 1, api.Date{Year: 2026, Month: 2, Day: 28}},
		{api.Date{Year: 2026, Month: 1, Day: 31}, 2, api.Date{Year: 2026, Month: 3, Day: 31}},
		{api.Date{Year: 2024, Month: 1, Day: 30}, 1, api.Date{Year: 2024, Month: 2, Day: 29}},
		{api.Date{Year: 2024, Month: 2, Day: 29}, 12, api.Date{Year: 2025, Month: 2, Day: 28}},
		{api.Date{Year: 2024, Month: 2, Day: 29}, -12, api.Date{Year: 2023, Month: 2, Day: 28}},
		{api.Date{Year: 2024, Month: 2, Day: 29}, 48, api.Date{Year: 2028, Month: 2, Day: 29}},
		{api.Date{Year: 2096, Month: 2, Day: 29}, 48, api.Date{Year: 2100, Month: 2, Day: 28}},
		{api.Date{Year: 2000, Month: 3, Day: 31}, -1, api.Date{Year: 2000, Month: 2, Day: 29}},
		{api.Date{Year: 2000, Month: 1, Day: 31}, -1, api.Date{Year: 1999, Month: 12, Day: 31}},
		{api.Date{Year: 2000, Month: 12, Day: 31}, 0, api.Date{Year: 2000, Month: 12, Day: 31}},
		{api.Date{Year: 2000, Month: 12, Day: 31}, 1, api.Date{Year: 2001, Month: 1, Day: 31}},
		{api.Date{Year: 2000, Month: 12, Day: 31}, -6, api.Date{Year: 2000, Month: 6, Day: 30}},
		{api.Date{Year: 1999, Month: 1, Day: 31}, 1223, api.Date{Year: 2100, Month: 12, Day: 31}},
		{api.Date{Year: 2100, Month: 12, Day: 31}, -1223, api.Date{Year: 1999, Month: 1, Day: 31}},
	} {
		checkAddMonths(t, c.d, c.n, c.want)
	}
}

// From each month to each other one, and beyond.
func TestAddMonthsFromEveryMonth(t *testing.T) {
	var months []api.Date // with their last days
	for year := 1999; year <= 2100; year++ {
		for month := 1; month <= 12; month++ {
			months = append(months, api.Date{Year: year, Month: month, Day: lengthOfMonth(year, month)})
		}
	}
	for i, d := range months {
		days := []int{1, 27, 28, d.Day}
		for n := -1310; n <= 1310; n++ {
			d.Day = days[(i+n+1310)%len(days)]
			if i+n < 0 || i+n >= len(months) {
				checkAddMonthsError(t, d, n)
				continue
			}
			want := months[i+n]
			want.Day = min(want.Day, d.Day)
			checkAddMonths(t, d, n, want)
		}
	}
}

// Every day, with the numbers of months that meet each length of a month.
func TestAddMonthsToEveryDay(t *testing.T) {
	for day := firstDay; day <= lastDay; day++ {
		d := dateOfTime(timeOfDay(day))
		for n := -13; n <= 13; n++ {
			want := dateOfTime(timeOf(api.Date{Year: d.Year, Month: d.Month + n, Day: 1}))
			want.Day = min(d.Day, lengthOfMonth(want.Year, want.Month))
			if isDate(want) {
				checkAddMonths(t, d, n, want)
			} else {
				checkAddMonthsError(t, d, n)
			}
		}
	}
}

func TestAddMonthsErrors(t *testing.T) {
	for _, d := range faultyDates() {
		for _, n := range []int{0, 1, -1, 12, 1300, -1300, 1301, math.MaxInt, math.MinInt} {
			checkAddMonthsError(t, d, n)
		}
	}
	// Months that come back into the years of dates after an overflow.
	d := api.Date{Year: 2000, Month: 1, Day: 1}
	for _, n := range borderNumbers() {
		if n < -1300 || n > 1300 {
			checkAddMonthsError(t, d, n)
			checkAddMonthsError(t, d, n-24000)
		}
	}
	// A day that the month after n months has, but not the month of the date.
	checkAddMonthsError(t, api.Date{Year: 2001, Month: 2, Day: 29}, 1)
	checkAddMonthsError(t, api.Date{Year: 2001, Month: 2, Day: 29}, -12)
	checkAddMonthsError(t, api.Date{Year: 1998, Month: 12, Day: 1}, 1)
	checkAddMonthsError(t, api.Date{Year: 2101, Month: 1, Day: 1}, -1)
	checkAddMonthsError(t, api.Date{Year: 2000, Month: 13, Day: 1}, 1)
	checkAddMonthsError(t, api.Date{Year: 2000, Month: 0, Day: 1}, 1)
}
