package text

import (
	"strconv"
	"strings"

	"pairing/api"
)

const maxDigits = 10

func ParseInt(s string) (int, api.Errno) {
	digits, negative := strings.CutPrefix(s, "-")
	if !isNatural(digits) || negative && digits == "0" {
		return 0, api.ErrSyntax
	}
	n := 0
	for _, c := range []byte(digits) {
		n = 10*n + int(c-'0')
	}
	if negative {
		n = -n
	}
	return n, api.OK
}

func isNatural(s string) bool {
	if s == "" || len(s) > maxDigits || s[0] == '0' && s != "0" {
		return false
	}
	for _, c := range []byte(s) {
		if classOf(c) != digit {
			return false
		}
	}
	return true
}

func FormatInt(n int) string {
	return strconv.Itoa(n)
}
