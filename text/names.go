package text

import "pairing/api"

const maxCode = 8

type class int

const (
	other class = iota
	lower
	upper
	digit
)

func classOf(c byte) class {
	switch {
	case 'a' <= c && c <= 'z':
		return lower
	case 'A' <= c && c <= 'Z':
		return upper
	case '0' <= c && c <= '9':
		return digit
	}
	return other
}

func IsName(s string) bool {
	if s == "" || len(s) > api.MaxName || classOf(s[0]) != lower {
		return false
	}
	for _, c := range []byte(s) {
		if k := classOf(c); k != lower && k != digit && c != '_' {
			return false
		}
	}
	return true
}

func IsCode(s string) bool {
	if s == "" || len(s) > maxCode {
		return false
	}
	for _, c := range []byte(s) {
		if k := classOf(c); k != upper && k != digit {
			return false
		}
	}
	return true
}

func IsAirport(s string) bool {
	if len(s) != 3 {
		return false
	}
	for _, c := range []byte(s) {
		if classOf(c) != upper {
			return false
		}
	}
	return true
}
