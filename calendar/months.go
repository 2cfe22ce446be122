package calendar

import "pairing/api"

const (
	yearMonths = 12
	mostMonths = 1300 // that AddMonths adds
)

var monthDays = [yearMonths]int{31, 28, 31, 30, 31, 30, 31, 31, 30, 31, 30, 31}

func DaysInMonth(year, month int) (int, api.Errno) {
	if !isYear(year) || !isMonth(month) {
		return 0, api.ErrRange
	}
	return monthLength(year, month), api.OK
}

func monthLength(year, month int) int {
	days := monthDays[month-1]
	if month == 2 && isLeap(year) {
		days++
	}
	return days
}

func isLeap(year int) bool {
	return year%4 == 0 && year%100 != 0 || year%400 == 0
}

func isYear(year int) bool {
	return firstYear <= year && year <= lastYear
}

func isMonth(month int) bool {
	return 1 <= month && month <= yearMonths
}

func isDate(d api.Date) bool {
	return isYear(d.Year) && isMonth(d.Month) && 1 <= d.Day && d.Day <= monthLength(d.Year, d.Month)
}

func AddMonths(d api.Date, n int) (api.Date, api.Errno) {
	if !isDate(d) || n < -mostMonths || n > mostMonths {
		return api.Date{}, api.ErrRange
	}
	year, month := divide(d.Year*yearMonths+d.Month-1+n, yearMonths)
	month++
	if !isYear(year) {
		return api.Date{}, api.ErrRange
	}
	return api.Date{Year: year, Month: month, Day: min(d.Day, monthLength(year, month))}, api.OK
}
