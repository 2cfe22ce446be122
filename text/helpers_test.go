package text_test

import "pairing/api"

// allTexts returns all texts of at most n bytes from an alphabet.
func allTexts(alphabet string, n int) []string {
	texts := []string{""}
	for i := 0; i < len(texts) && len(texts[i]) < n; i++ {
		for _, c := range []byte(alphabet) {
			texts = append(texts, texts[i]+string([]byte{c}))
		}
	}
	return texts
}

// withEveryByte returns s with each of the 256 bytes in the place of each of
// its bytes, and between each two of them.
func withEveryByte(s string) []string {
	var texts []string
	for at := range len(s) + 1 {
		for c := range 256 {
			b := string([]byte{byte(c)})
			texts = append(texts, s[:at]+b+s[at:])
			if at < len(s) {
				texts = append(texts, s[:at]+b+s[at+1:])
			}
		}
	}
	return texts
}

// describe cuts a long text for a message.
func describe(s string) string {
	if len(s) > 60 {
		return s[:60] + ".."
	}
	return s
}

var errorNames = map[api.Errno]string{api.OK: "OK", api.ErrSyntax: "ErrSyntax", api.ErrTooLarge: "ErrTooLarge"}
