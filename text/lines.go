package text

import (
	"bytes"

	"pairing/api"
)

func Lines(s string) ([]string, api.Errno) {
	if len(s) > api.MaxText {
		return nil, api.ErrTooLarge
	}
	text := []byte(s)
	if !isPlain(text) {
		return nil, api.ErrSyntax
	}
	var lines []string
	for line := range bytes.Lines(text) {
		if len(lines) == api.MaxLines {
			return nil, api.ErrTooLarge
		}
		lines = append(lines, string(bytes.TrimSuffix(line, []byte{'\n'})))
	}
	return lines, api.OK
}

func isPlain(text []byte) bool {
	for _, c := range text {
		switch {
		case c == '\n', ' ' <= c && c <= '~':
		default:
			return false
		}
	}
	return true
}

func Fields(line string) []string {
	content, _, _ := bytes.Cut([]byte(line), []byte{'#'})
	var fields []string
	for part := range bytes.SplitSeq(content, []byte{' '}) {
		if len(part) > 0 {
			fields = append(fields, string(part))
		}
	}
	return fields
}
