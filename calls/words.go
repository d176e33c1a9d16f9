package calls

import (
	"strconv"
	"strings"

	"bole/api"
)

const (
	blank     = " "
	lineBreak = "\n"
	quote     = `"`
	hexMark   = `\x`
	hexLen    = len(hexMark) + 2
	digits    = "0123456789abcdef"
)

// mostWords is one more than any row has: those behind it need not be cut.
const mostWords = 5

// cut is a line's words as they are written: it is cut at its blanks, but for those in quotes. (Whether each is a word is asked as it is read.)
func cut(line string) []string {
	var words []string
	left := strings.Trim(line, blank)
cutting:
	for len(words) < mostWords {
		quoted := false
		for i := 0; ; i++ {
			switch {
			case i >= len(left):
				words = append(words, left)
				break cutting
			case left[i] == '"':
				quoted = !quoted
			case quoted && left[i] == '\\':
				i++
			case !quoted && left[i] == ' ':
				words = append(words, left[:i])
				left = strings.TrimLeft(left[i:], blank)
				continue cutting
			}
		}
	}
	return words
}

func isBareByte(c byte) bool {
	return 'A' <= c && c <= 'Z' || 'a' <= c && c <= 'z' || '0' <= c && c <= '9' || strings.IndexByte("/._-", c) >= 0
}

func isBare(s string) bool {
	for i := range len(s) {
		if !isBareByte(s[i]) {
			return false
		}
	}
	return s != ""
}

// saysItself tells whether a byte is a mark by itself.
func saysItself(c byte) bool { return ' ' <= c && c <= '~' && c != '"' && c != '\\' }

// withMark puts a byte's mark behind b.
func withMark(b []byte, c byte) []byte {
	switch {
	case saysItself(c):
		return append(b, c)
	case c == '"' || c == '\\':
		return append(b, '\\', c)
	}
	return append(append(b, hexMark...), digits[c>>4], digits[c&15])
}

// mark is the byte that the mark at the front of a text says, and how long the mark is; 0: none is there.
func mark(s string) (byte, int) {
	switch {
	case saysItself(s[0]):
		return s[0], 1
	case strings.HasPrefix(s, `\"`), strings.HasPrefix(s, `\\`):
		return s[1], 2
	case strings.HasPrefix(s, hexMark) && len(s) >= hexLen:
		if v, err := strconv.ParseUint(s[len(hexMark):hexLen], 16, 8); err == nil {
			return byte(v), hexLen
		}
	}
	return 0, 0
}

// Quote writes any bytes as a word.
func Quote(s string) string {
	if isBare(s) {
		return strings.Clone(s)
	}
	b := []byte(quote)
	for i := range len(s) {
		b = withMark(b, s[i])
	}
	return string(append(b, quote...))
}

// Unquote reads one.
func Unquote(w string) (string, api.Errno) {
	if isBare(w) {
		return strings.Clone(w), api.OK
	}
	opened, opens := strings.CutPrefix(w, quote)
	marks, closes := strings.CutSuffix(opened, quote)
	if !opens || !closes {
		return "", api.ErrLine
	}
	var said []byte
	for marks != "" {
		c, n := mark(marks)
		if n == 0 {
			return "", api.ErrLine
		}
		said, marks = append(said, c), marks[n:]
	}
	return string(said), api.OK
}

// readNumber reads a number. That it has no sign or zero ahead that none has is seen as it is written again.
func readNumber(w string) (int, api.Errno) {
	v, err := strconv.Atoi(w)
	if err != nil || strconv.Itoa(v) != w {
		return 0, api.ErrLine
	}
	return v, api.OK
}

// numbers writes numbers, with a blank between each two.
func numbers(l ...int) string {
	words := make([]string, len(l))
	for i, v := range l {
		words[i] = strconv.Itoa(v)
	}
	return strings.Join(words, blank)
}
