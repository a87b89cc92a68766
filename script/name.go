package script

import "copse/api"

// IsName tells whether a variable may have this name.
func IsName(text string) bool {
	if len(text) < 1 || len(text) > api.MaxName || !isLetter(text[0]) {
		return false
	}
	for _, b := range []byte(text) {
		if !isLetter(b) && !isDigit(b) {
			return false
		}
	}
	return true
}

func isLetter(b byte) bool { return 'a' <= b && b <= 'z' }

func isDigit(b byte) bool { return '0' <= b && b <= '9' }
