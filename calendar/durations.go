package calendar

import (
	"strings"

	"pairing/api"
	"pairing/text"
)

const maxHourDigits = 11

func ParseDuration(s string) (int, api.Errno) {
	size, negative := strings.CutPrefix(s, "-")
	hours, minutes, found := strings.Cut(size, ":")
	if !found || !isHours(hours) || !hasForm(minutes, "00") {
		return 0, api.ErrSyntax
	}
	n := number(hours)*hourMinutes + number(minutes)
	if negative && n == 0 {
		return 0, api.ErrSyntax
	}
	if number(minutes) >= hourMinutes || n > api.MaxValue {
		return 0, api.ErrRange
	}
	if negative {
		n = -n
	}
	return n, api.OK
}

func isHours(s string) bool {
	if s == "" || len(s) > maxHourDigits || !areDigits(s) {
		return false
	}
	return s[0] != '0' || s == "0"
}

func FormatDuration(n int) (string, api.Errno) {
	if n < -api.MaxValue || n > api.MaxValue {
		return "", api.ErrRange
	}
	sign := ""
	if n < 0 {
		sign = "-"
		n = -n
	}
	return sign + text.FormatInt(n/hourMinutes) + ":" + padded(n%hourMinutes, 2), api.OK
}
