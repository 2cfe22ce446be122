package integer

import (
	"slices"
	"strings"

	"pairing/api"
)

const (
	maxText    = 400
	chunk      = 9 // decimal digits that fit into a digit
	chunkPower = 1_000_000_000
)

func Parse(s string) (api.Int, api.Errno) {
	if len(s) > maxText {
		return api.Int{}, api.ErrTooLarge
	}
	decimals, neg := strings.CutPrefix(s, "-")
	if !isDecimal(decimals) || neg && decimals == "0" {
		return api.Int{}, api.ErrSyntax
	}
	return newInt(neg, fromDecimal(decimals)), api.OK
}

func Format(a api.Int) string {
	a = canonical(a)
	if len(a.Digits) == 0 {
		return "0"
	}
	text := toDecimal(a.Digits)
	if a.Neg {
		return "-" + text
	}
	return text
}

func isDecimal(s string) bool {
	for i := range len(s) {
		if s[i] < '0' || s[i] > '9' {
			return false
		}
	}
	return s == "0" || s != "" && s[0] != '0'
}

func fromDecimal(s string) []uint32 {
	d := make([]uint32, 0, len(s)/chunk+1)
	for len(s) > 0 {
		n := (len(s)-1)%chunk + 1 // only the first part may be shorter
		value := uint32(0)
		for i := range n {
			value = 10*value + uint32(s[i]-'0')
		}
		d = mulAddSmall(d, chunkPower, value)
		s = s[n:]
	}
	return d
}

func toDecimal(d []uint32) string {
	rest := slices.Clone(d)
	text := make([]byte, 10*len(rest)+chunk) // a digit has at most 10 decimals
	at := len(text)
	for len(rest) > 0 {
		value := divSmall(rest, rest, chunkPower)
		rest = trim(rest)
		for range chunk {
			at--
			text[at] = '0' + byte(value%10)
			value /= 10
		}
	}
	for text[at] == '0' {
		at++
	}
	return string(text[at:])
}
