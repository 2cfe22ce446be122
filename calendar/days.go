package calendar

import "pairing/api"

// The calendar repeats itself after a cycle of 400 years. Day 0 begins one.
const (
	cycleYears = 400
	cycleDays  = 400*365 + 97
	cycleStart = 2000
)

const (
	weekDays     = 7
	startWeekday = 5 // of day 0
)

func DayNumber(d api.Date) (int, api.Errno) {
	if !isDate(d) {
		return 0, api.ErrRange
	}
	return dayNumber(d), api.OK
}

func dayNumber(d api.Date) int {
	cycle, year := divide(d.Year-cycleStart, cycleYears)
	day := cycle*cycleDays + daysBefore(year) + d.Day - 1
	for month := 1; month < d.Month; month++ {
		day += monthLength(d.Year, month)
	}
	return day
}

func DateOf(day int) (api.Date, api.Errno) {
	d := dateOf(day)
	if !isYear(d.Year) {
		return api.Date{}, api.ErrRange
	}
	return d, api.OK
}

func dateOf(day int) api.Date {
	cycle, rest := divide(day, cycleDays)
	year := rest / 366
	for daysBefore(year+1) <= rest {
		year++
	}
	rest -= daysBefore(year)
	year += cycleStart + cycle*cycleYears
	month := 1
	for rest >= monthLength(year, month) {
		rest -= monthLength(year, month)
		month++
	}
	return api.Date{Year: year, Month: month, Day: rest + 1}
}

// daysBefore returns the number of days in the first years of a cycle. The
// year 0 of a cycle is a leap year, so the divisions round up.
func daysBefore(years int) int {
	return years*365 + (years+3)/4 - (years+99)/100 + (years+399)/400
}

func Weekday(day int) int {
	_, rest := divide(day, weekDays)
	return (startWeekday + rest) % weekDays
}
