package calls_test

import (
	"fmt"
	"strings"
	"testing"

	"bole/api"
	"bole/calls"
)

const bareBytes = "ABCDEFGHIJKLMNOPQRSTUVWXYZabcdefghijklmnopqrstuvwxyz0123456789/._-"

// otherBytes are the bytes that no bare word has.
func otherBytes() []string {
	var l []string
	for _, c := range allBytes() {
		if !strings.Contains(bareBytes, c) {
			l = append(l, c)
		}
	}
	return l
}

// markOf is the one mark of a byte that Quote writes.
func markOf(c byte) string {
	switch {
	case c == '"' || c == '\\':
		return `\` + string(rune(c))
	case c < ' ' || c > '~':
		return fmt.Sprintf(`\x%02x`, c)
	}
	return string(rune(c))
}

// P25.1: no byte, and each single one.
func TestQuoteByte(t *testing.T) {
	quotes(t, "", `""`)
	for _, c := range strings.Split(bareBytes, "") {
		quotes(t, c, c)
	}
	if n := len(otherBytes()); n != 256-66 {
		t.Fatalf("%d bytes are in no bare word", n)
	}
	for _, c := range otherBytes() {
		quotes(t, c, `"`+markOf(c[0])+`"`)
	}
}

// P25.1: each pair of a byte that may be bare and one that may not, either ahead; and one between two.
func TestQuotePair(t *testing.T) {
	for _, a := range strings.Split(bareBytes, "") {
		for _, b := range otherBytes() {
			quotes(t, a+b, `"`+a+markOf(b[0])+`"`)
			quotes(t, b+a, `"`+markOf(b[0])+a+`"`)
			quotes(t, a+b+a, `"`+a+markOf(b[0])+a+`"`)
		}
		for _, b := range strings.Split(bareBytes, "") {
			quotes(t, a+b, a+b)
		}
	}
}

// P25.1: long texts, and one other byte at each place of one.
func TestQuoteLong(t *testing.T) {
	for _, n := range []int{2, 3, 31, 32, 33, 255, 256, 1024, 65536, 1 << 20} {
		quotes(t, rep("a", n), rep("a", n))
		quotes(t, rep("/x._-9Z", n), rep("/x._-9Z", n))
		quotes(t, rep(" ", n), `"`+rep(" ", n)+`"`)
		quotes(t, rep(`"`, n), `"`+rep(`\"`, n)+`"`)
		quotes(t, rep(`\`, n), `"`+rep(`\\`, n)+`"`)
		quotes(t, rep("\x00", n), `"`+rep(`\x00`, n)+`"`)
		quotes(t, rep("a", n)+" ", `"`+rep("a", n)+` "`)
		quotes(t, " "+rep("a", n), `" `+rep("a", n)+`"`)
	}
	for _, c := range otherBytes() {
		for at := range 40 {
			quotes(t, rep("b", at)+c+rep("b", 39-at), `"`+rep("b", at)+markOf(c[0])+rep("b", 39-at)+`"`)
		}
	}
}

// P25.1: bytes above 127 are bytes, whether they are letters together or not.
func TestQuoteHigh(t *testing.T) {
	quotes(t, "é", `"\xc3\xa9"`)
	quotes(t, "a日b", `"a\xe6\x97\xa5b"`)
	quotes(t, "\U0001F332", `"\xf0\x9f\x8c\xb2"`)
	quotes(t, "\u00a0", `"\xc2\xa0"`)
	quotes(t, "\u2028", `"\xe2\x80\xa8"`)
	quotes(t, "\ufffd", `"\xef\xbf\xbd"`)
	quotes(t, "\xc3", `"\xc3"`)
	quotes(t, "\xa9\xc3", `"\xa9\xc3"`)
	quotes(t, "\x80\xff", `"\x80\xff"`)
	high, marks := "", ""
	for c := 128; c < 256; c++ {
		high += string([]byte{byte(c)})
		marks += fmt.Sprintf(`\x%02x`, c)
	}
	quotes(t, high, `"`+marks+`"`)
}

// P25.1: what looks like a mark, or like a word, is quoted as all else.
func TestQuoteMarks(t *testing.T) {
	quotes(t, `\x41`, `"\\x41"`)
	quotes(t, `\xff`, `"\\xff"`)
	quotes(t, `\"`, `"\\\""`)
	quotes(t, `\\`, `"\\\\"`)
	quotes(t, `\n`, `"\\n"`)
	quotes(t, `x41`, `x41`)
	quotes(t, `""`, `"\"\""`)
	quotes(t, `"a"`, `"\"a\""`)
	quotes(t, `"\x0a"`, `"\"\\x0a\""`)
	quotes(t, "\\\n", `"\\\x0a"`)
	quotes(t, "\x0a41", `"\x0a41"`)
	quotes(t, "\xff\\ff", `"\xff\\ff"`)
}

// P25.1, P25.2: all short texts of bytes of each kind.
func TestEveryShortText(t *testing.T) {
	met := map[string]string{}
	for _, s := range every("ax4/ \"\\\n\x7f\xff", 5) {
		w := calls.Quote(s)
		quotes(t, s, plainQuote(s))
		if other, ok := met[w]; ok {
			t.Errorf("P25.6: Quote(%q) and Quote(%q) are both %s", s, other, w)
		}
		met[w] = s
		if back, e := calls.Unquote(w); back != s || e != api.OK {
			t.Errorf("P25.6: Unquote(%s) = %q, %d", w, back, e)
		}
	}
}
