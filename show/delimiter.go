package show

import "strings"

// delimiter looks for a byte that can stand around texts as they are written, so that none of them needs a backslash for its sake.
func delimiter(texts ...string) (byte, bool) {
	if isFree('/', texts...) {
		return '/', true
	}
	for delim := byte('!'); delim <= '~'; delim++ {
		if delim != '\\' && isFree(delim, texts...) {
			return delim, true
		}
	}
	return 0, false
}

// isFree tells whether a byte stands in none of some texts.
func isFree(delim byte, texts ...string) bool {
	for _, text := range texts {
		if strings.IndexByte(text, delim) >= 0 {
			return false
		}
	}
	return true
}
