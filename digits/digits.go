// Package digits reads the decimal numbers in the texts of the layers.
package digits

// Number returns the number that a text of one to most digits is; more than 18 would not fit.
func Number(text string, most int) (int, bool) {
	if text == "" || len(text) > most {
		return 0, false
	}
	n := 0
	for _, c := range text {
		if c < '0' || c > '9' {
			return 0, false
		}
		n = n*10 + int(c-'0')
	}
	return n, true
}

// Plain returns the number that a text of one to most digits, without leading zeros, is.
func Plain(text string, most int) (int, bool) {
	if len(text) > 1 && text[0] == '0' {
		return 0, false
	}
	return Number(text, most)
}
