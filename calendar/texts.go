package calendar

import "pairing/api"

func ParseDate(s string) (api.Date, api.Errno) {
	if !hasForm(s, dateForm) {
		return api.Date{}, api.ErrSyntax
	}
	d := api.Date{Year: number(s[:4]), Month: number(s[5:7]), Day: number(s[8:])}
	if !isDate(d) {
		return api.Date{}, api.ErrRange
	}
	return d, api.OK
}

func FormatDate(d api.Date) (string, api.Errno) {
	if !isDate(d) {
		return "", api.ErrRange
	}
	return dateText(d), api.OK
}

func dateText(d api.Date) string {
	return padded(d.Year, 4) + "-" + padded(d.Month, 2) + "-" + padded(d.Day, 2)
}

func ParseClock(s string) (int, api.Errno) {
	if !hasForm(s, clockForm) {
		return 0, api.ErrSyntax
	}
	hours, minutes := number(s[:2]), number(s[3:])
	if hours*hourMinutes >= dayMinutes || minutes >= hourMinutes {
		return 0, api.ErrRange
	}
	return hours*hourMinutes + minutes, api.OK
}

func FormatClock(clock int) (string, api.Errno) {
	if clock < 0 || clock >= dayMinutes {
		return "", api.ErrRange
	}
	return clockText(clock), api.OK
}

func clockText(clock int) string {
	return padded(clock/hourMinutes, 2) + ":" + padded(clock%hourMinutes, 2)
}

func ParseInstant(s string) (int, api.Errno) {
	if !hasForm(s, instantForm) {
		return 0, api.ErrSyntax
	}
	date, e := ParseDate(s[:len(dateForm)])
	if e != api.OK {
		return 0, e
	}
	clock, e := ParseClock(s[len(dateForm)+1:])
	if e != api.OK {
		return 0, e
	}
	t := dayNumber(date)*dayMinutes + clock
	if !isInstant(t) {
		return 0, api.ErrRange
	}
	return t, api.OK
}

func FormatInstant(t int) (string, api.Errno) {
	if !isInstant(t) {
		return "", api.ErrRange
	}
	day, clock := SplitMinute(t)
	return dateText(dateOf(day)) + " " + clockText(clock), api.OK
}

func isInstant(t int) bool {
	return 0 <= t && t < api.MaxMinute
}
