package calendar_test

import (
	"math"
	"math/big"
	"testing"
	"time"

	"pairing/api"
	"pairing/calendar"
)

// P6.1

func checkDay(t *testing.T, d api.Date, day int) {
	t.Helper()
	if n, e := calendar.DayNumber(d); n != day || e != api.OK {
		t.Errorf("DayNumber(%v): %d, error %d, want %d", d, n, e, day)
	}
	if got, e := calendar.DateOf(day); got != d || e != api.OK {
		t.Errorf("DateOf(%d): %v, error %d, want %v", day, got, e, d)
	}
}

func TestDays(t *testing.T) {
	for _, c := range []struct {
		d   api.Date
		day int
	}{
		{api.Date{Year: 2000, Month: 1, Day: 1}, 0},
		{api.Date{Year: 1999, Month: 12, Day: 31}, -1},
		{api.Date{Year: 2000, Month: 2, Day: 29}, 59},
		{api.Date{Year: 2000, Month: 3, Day: 1}, 60},
		{api.Date{Year: 2000, Month: 12, Day: 31}, 365},
		{api.Date{Year: 2001, Month: 1, Day: 1}, 366},
		{api.Date{Year: 2004, Month: 2, Day: 29}, 1520},
		{api.Date{Year: 2026, Month: 11, Day: 20}, 9820},
		{api.Date{Year: 2100, Month: 1, Day: 1}, api.MaxMinute / 1440},
		{api.Date{Year: 2100, Month: 2, Day: 28}, 36583},
		{api.Date{Year: 2100, Month: 3, Day: 1}, 36584},
		{api.Date{Year: 1999, Month: 1, Day: 1}, firstDay},
		{api.Date{Year: 2100, Month: 12, Day: 31}, lastDay},
	} {
		checkDay(t, c.d, c.day)
	}
}

func TestEveryDay(t *testing.T) {
	for day := firstDay; day <= lastDay; day++ {
		checkDay(t, dateOfTime(timeOfDay(day)), day)
	}
}

func TestDayNumberOfFaultyDates(t *testing.T) {
	check := func(d api.Date) {
		if n, e := calendar.DayNumber(d); n != 0 || e != api.ErrRange {
			t.Errorf("DayNumber(%v): %d, error %d, want ErrRange", d, n, e)
		}
	}
	for _, d := range faultyDates() {
		check(d)
	}
	for year := 1990; year <= 2110; year++ {
		for month := -2; month <= 14; month++ {
			for day := -2; day <= 34; day++ {
				if d := (api.Date{Year: year, Month: month, Day: day}); !isDate(d) {
					check(d)
				}
			}
		}
	}
}

func TestDateOfFaultyDays(t *testing.T) {
	check := func(day int) {
		if d, e := calendar.DateOf(day); d != (api.Date{}) || e != api.ErrRange {
			t.Errorf("DateOf(%d): %v, error %d, want ErrRange", day, d, e)
		}
	}
	for n := range 200000 {
		check(firstDay - 1 - n)
		check(lastDay + 1 + n)
	}
	for _, n := range borderNumbers() {
		if n < firstDay || n > lastDay {
			check(n)
		}
	}
	// Days that 32 bits, or whole cycles of 400 years, would take for others.
	for _, day := range []int{0, 60, firstDay, lastDay} {
		for _, distance := range []int{1 << 16, 1 << 32, 1 << 48, 146097, 146097 << 20} {
			check(day + distance*2)
			check(day - distance*2)
		}
	}
}

func TestWeekday(t *testing.T) {
	for day, want := range map[int]int{0: 5, 1: 6, 2: 0, 3: 1, 8: 6, 9: 0, -1: 4, -5: 0, -6: 6, -7: 5, 9820: 4} {
		if w := calendar.Weekday(day); w != want {
			t.Errorf("Weekday(%d): %d, want %d", day, w, want)
		}
	}
	for day := firstDay - 100000; day <= lastDay+100000; day++ {
		// Package time begins its weeks on Sunday.
		want := (timeOfDay(day).Weekday() + 6) % 7
		if w := calendar.Weekday(day); time.Weekday(w) != want {
			t.Fatalf("Weekday(%d): %d, want %d", day, w, want)
		}
	}
}

func TestWeekdayOfAnyInt(t *testing.T) {
	for _, day := range append(borderNumbers(), math.MinInt+7, math.MaxInt-7) {
		shifted := new(big.Int).Add(big.NewInt(int64(day)), big.NewInt(5))
		want := shifted.Mod(shifted, big.NewInt(7)).Int64()
		if w := calendar.Weekday(day); int64(w) != want {
			t.Errorf("Weekday(%d): %d, want %d", day, w, want)
		}
	}
}
