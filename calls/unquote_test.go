package calls_test

import (
	"fmt"
	"slices"
	"strings"
	"testing"

	"bole/calls"
)

// P25.2: each single byte, bare and between quotes.
func TestUnquoteByte(t *testing.T) {
	for _, c := range allBytes() {
		if strings.Contains(bareBytes, c) {
			says(t, c, c)
		} else {
			noWord(t, c)
		}
		if c >= " " && c <= "~" && c != `"` && c != `\` {
			says(t, `"`+c+`"`, c)
			says(t, `"`+c+c+`"`, c+c)
		} else {
			noWord(t, `"`+c+`"`)
			noWord(t, `"a`+c+`"`)
			noWord(t, `"`+c+`a"`)
		}
	}
}

// P25.2: a bare word has none but its own bytes, at each place.
func TestUnquoteBare(t *testing.T) {
	says(t, bareBytes, bareBytes)
	for _, c := range strings.Split(bareBytes, "") {
		says(t, c+c+c, c+c+c)
	}
	for _, c := range otherBytes() {
		noWord(t, c+"ab")
		noWord(t, "a"+c+"b")
		noWord(t, "ab"+c)
	}
	for _, w := range []string{"/", "//", ".", "..", "-", "--", "-1", "_", "0", "007", "room", "E160", rep("x", 1<<20)} {
		says(t, w, w)
	}
}

// P25.2: each byte as its mark of two digits of base sixteen, great and small.
func TestUnquoteHex(t *testing.T) {
	for c := range 256 {
		s := string([]byte{byte(c)})
		small, great := fmt.Sprintf("%02x", c), fmt.Sprintf("%02X", c)
		for _, d := range []string{small, great, small[:1] + great[1:], great[:1] + small[1:]} {
			says(t, `"\x`+d+`"`, s)
			says(t, `"a\x`+d+`0"`, "a"+s+"0")
			says(t, `"\x`+d+`\x`+d+`"`, s+s)
			noWord(t, `\x`+d)
			noWord(t, `"\X`+d+`"`)
			noWord(t, `"\x`+d)
		}
	}
}

// P25.2: \x with no, one and wrong digits.
func TestUnquoteWrongHex(t *testing.T) {
	for _, w := range []string{`"\x"`, `"\x4"`, `"\x"4`, `"\x`, `"\x4`, `"\xg0"`, `"\x0g"`, `"\x4 1"`, `"\x 41"`, `"\x+1"`, `"\x-1"`, `"\x0x"`, `"\x_1"`, `"\x1_"`, `"\x\x"`, `"\x4\x41"`, `"\x4\"`, `"\x4\""`, `"\x"\"`, "\"\\x4\n\"", "\"\\x\n4\"", "\"\\x4\xff\"", `"a\x"`, `"\x41\x"`, `"\x41\x4"`} {
		noWord(t, w)
	}
	for _, c := range allBytes() {
		if strings.Contains("0123456789abcdefABCDEF", c) {
			continue
		}
		noWord(t, `"\x`+c+`0"`)
		noWord(t, `"\x0`+c+`"`)
		noWord(t, `"\x`+c+c+`"`)
	}
}

// P25.2: a '\' with each byte behind it.
func TestUnquoteBackslash(t *testing.T) {
	says(t, `"\""`, `"`)
	says(t, `"\\"`, `\`)
	says(t, `"\\x41"`, `\x41`)
	says(t, `"\\\x41"`, `\A`)
	says(t, `"\"\\\"\\"`, `"\"\`)
	for _, c := range allBytes() {
		if c == `"` || c == `\` {
			continue
		}
		noWord(t, `"\`+c+`"`)
		noWord(t, `"\`+c+c+`"`)
		noWord(t, `"a\`+c+` b"`)
	}
	for n := range 9 {
		if n%2 == 0 {
			says(t, `"`+rep(`\`, n)+`"`, rep(`\`, n/2))
			says(t, `"a`+rep(`\`, n)+`"`, "a"+rep(`\`, n/2))
			noWord(t, `"`+rep(`\`, n)+`""`)
		} else {
			noWord(t, `"`+rep(`\`, n)+`"`)
			noWord(t, `"a`+rep(`\`, n)+`"`)
			says(t, `"`+rep(`\`, n)+`""`, rep(`\`, n/2)+`"`)
		}
		noWord(t, rep(`\`, n+1))
	}
}

// P25.2: a quote left out at either end, one too many, and quotes of other kinds.
func TestUnquoteQuotes(t *testing.T) {
	says(t, `""`, "")
	for _, w := range []string{`"`, `"a`, `a"`, `"a b`, `a b"`, `"a\"`, `\"a"`, `"""`, `""""`, `""a`, `a""`, `""a""`, `"a"b`, `"a"b"`, `"a""b"`, `""a"`, `"a""`, `"\"`, `"\\\"`, `'a'`, "`a`", `'"a"'`, `“a”`, `"a'`, `'a"`} {
		noWord(t, w)
	}
	for _, s := range edgeTexts() {
		w := plainQuote(s + " ")
		says(t, w, s+" ")
		noWord(t, w[1:])
		noWord(t, w[:len(w)-1])
		noWord(t, w+`"`)
		noWord(t, `"`+w)
		noWord(t, w+w)
		noWord(t, "a"+w)
		noWord(t, w+"a")
	}
}

// P25.2: a blank or a line break, at either end and within.
func TestUnquoteBlanks(t *testing.T) {
	for _, c := range []string{" ", "  ", "\n", "\t", "\r", "\v", "\f", "\r\n", "\u0085", "\u00a0", "\x00"} {
		for _, w := range []string{"a", "/a/b", "-1", `""`, `"a"`, `"a b"`, `"\x41"`} {
			noWord(t, c+w)
			noWord(t, w+c)
			noWord(t, c+w+c)
			noWord(t, w+c+w)
		}
		noWord(t, c)
	}
	for _, c := range []string{"\n", "\t", "\r", "\v", "\f", "\r\n", "\u0085", "\u00a0", "\x00"} {
		noWord(t, `"`+c+`"`)
		noWord(t, `"a`+c+`b"`)
		noWord(t, `"`+c+`a"`)
		noWord(t, `"a`+c+`"`)
		noWord(t, `"\`+c+`"`)
	}
	says(t, `" "`, " ")
	says(t, `"  a  b  "`, "  a  b  ")
}

// P25.2: all short texts of bytes of each kind, and all of what a mark is made of, held against the words said plainly.
func TestEveryShortWord(t *testing.T) {
	l := every("aF/ \"\\x\n\xff", 6)
	for _, s := range every(`"\x4g`, 7) {
		l = append(l, `"`+s)
	}
	words := 0
	for _, w := range l {
		if asPlainWord(t, w) {
			words++
		}
	}
	if words < 1000 {
		t.Errorf("just %d of the texts are words", words)
	}
}

// P25.6: each word that says a text is one of those that Unquote takes; Quote writes the same one of them each time.
func TestWordsOfOneText(t *testing.T) {
	for c := range 256 {
		s := string([]byte{byte(c)})
		l := []string{fmt.Sprintf(`"\x%02x"`, c), fmt.Sprintf(`"\x%02X"`, c), calls.Quote(s)}
		if _, ok := plainUnquote(`"` + s + `"`); ok {
			l = append(l, `"`+s+`"`)
		}
		slices.Sort(l)
		for _, w := range slices.Compact(l) {
			says(t, w, s)
			quotes(t, s, plainQuote(s))
		}
	}
}
