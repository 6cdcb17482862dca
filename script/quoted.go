package script

import "strings"

const (
	escape = '\\'
	digits = "0123456789abcdef"
)

// plain tells whether a byte may stand in a quoted text as itself.
func plain(b byte) bool {
	return b >= 0x20 && b <= 0x7e && b != quote && b != escape
}

// unquoted tells what a quoted text says, and what stands behind it; it is
// handed what stands behind the opening quote.
func unquoted(s string) (says, rest string, ok bool) {
	var text strings.Builder
	for s != "" {
		if s[0] == quote {
			return text.String(), s[1:], true
		}
		b, size := byteOf(s)
		if size == 0 {
			break
		}
		text.WriteByte(b)
		s = s[size:]
	}
	return "", "", false
}

// byteOf tells the byte that s begins with, and in how many bytes that stands
// there; 0, if it can't stand in a quoted text.
func byteOf(s string) (byte, int) {
	switch {
	case plain(s[0]):
		return s[0], 1
	case s[0] != escape || len(s) < 2:
		return 0, 0
	case s[1] == quote || s[1] == escape:
		return s[1], 2
	case s[1] != 'x' || len(s) < 4:
		return 0, 0
	}
	high, low := strings.IndexByte(digits, s[2]), strings.IndexByte(digits, s[3])
	if high < 0 || low < 0 {
		return 0, 0
	}
	return byte(16*high + low), 4
}

// quoted tells the quoted text that says s.
func quoted(s string) string {
	var text strings.Builder
	text.WriteByte(quote)
	for i := range len(s) {
		switch b := s[i]; {
		case plain(b):
			text.WriteByte(b)
		case b == quote || b == escape:
			text.WriteByte(escape)
			text.WriteByte(b)
		default:
			text.WriteByte(escape)
			text.WriteByte('x')
			text.WriteByte(digits[b/16])
			text.WriteByte(digits[b%16])
		}
	}
	text.WriteByte(quote)
	return text.String()
}
