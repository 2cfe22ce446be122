package calendar

import (
	"strings"

	"pairing/text"
)

// In a form, a 0 stands for any digit; all other bytes stand for themselves.
const (
	dateForm    = "0000-00-00"
	clockForm   = "00:00"
	instantForm = dateForm + " " + clockForm
)

func hasForm(s, form string) bool {
	if len(s) != len(form) {
		return false
	}
	for i, c := range []byte(form) {
		if c == '0' && !isDigit(s[i]) || c != '0' && s[i] != c {
			return false
		}
	}
	return true
}

func isDigit(c byte) bool {
	return '0' <= c && c <= '9'
}

func areDigits(s string) bool {
	for _, c := range []byte(s) {
		if !isDigit(c) {
			return false
		}
	}
	return true
}

// number returns what decimal digits denote.
func number(digits string) int {
	n := 0
	for _, c := range []byte(digits) {
		n = 10*n + int(c-'0')
	}
	return n
}

// padded returns n with so many digits, of which it needs no more.
func padded(n, digits int) string {
	s := text.FormatInt(n)
	return strings.Repeat("0", digits-len(s)) + s
}
