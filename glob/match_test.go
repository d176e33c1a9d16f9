package glob_test

import (
	"testing"
)

// P23.2: '*' is any bytes, none too, whatever they are.
func TestStar(t *testing.T) {
	for _, p := range []string{"*", "**", "***", rep("*", 1024)} {
		for _, s := range []string{"", "a", "*", "abc", "a/b", "/", "\x00", ".", "..", ".a", "\xff\xfe", rep("x", 256), rep("xy", 5000)} {
			means(t, p, s, true)
		}
	}
	for _, p := range []string{"a*", "a**", "a***"} {
		means(t, p, "a", true)
		means(t, p, "ab", true)
		means(t, p, "ba", false)
		means(t, p, "", false)
	}
	for _, p := range []string{"*a", "**a"} {
		means(t, p, "a", true)
		means(t, p, "ba", true)
		means(t, p, "aba", true)
		means(t, p, "ab", false)
		means(t, p, "", false)
	}
	means(t, "*a*", "bab", true)
	means(t, "*a*", "bbb", false)
	means(t, "*a*b*", "ab", true)
	means(t, "*a*b*", "ba", false)
	means(t, "a*a", "a", false)
	means(t, "a*a", "aa", true)
	means(t, "a*ab", "aaab", true)
	means(t, "a*ab", "aaaba", false)
	means(t, "*?", "", false)
	means(t, "*?", "a", true)
	means(t, "?*?", "a", false)
	means(t, "?*?", "ab", true)
}

// P23.2: '?' is one byte, whatever it is: a sign of two bytes is two.
func TestQuestionMark(t *testing.T) {
	meansBytes(t, "?", func(byte) bool { return true })
	means(t, "?", "\u00e9", false)
	means(t, "??", "\u00e9", true)
	means(t, "???", "\u20ac", true)
	means(t, "?", "\u20ac", false)
	means(t, "a?c", "a?c", true)
	means(t, "a?c", "ac", false)
	means(t, "a?c", "abbc", false)
}

// P23.2: a plain byte is itself, each that is no mark; so is each behind a '\'.
func TestPlainBytes(t *testing.T) {
	for c, s := range allBytes() {
		if c == 0 || c == '/' {
			continue
		}
		meansBytes(t, `\`+s, oneOf(s))
		switch c {
		case '*', '?', '[', '\\':
		default:
			meansBytes(t, s, oneOf(s))
		}
	}
	means(t, "]", "]", true)
	means(t, "a]b", "a]b", true)
	means(t, "]]", "]]", true)
	means(t, "!", "!", true)
	means(t, "!a", "!a", true)
	means(t, "!a", "b", false)
	means(t, "a-c", "a-c", true)
	means(t, "a-c", "b", false)
	means(t, "-", "-", true)
	means(t, "z-a", "z-a", true)
	means(t, ".", ".", true)
	means(t, "..", "..", true)
	means(t, "*", ".a", true)
	means(t, "?a", ".a", true)
	means(t, "[.]a", ".a", true)
	means(t, `\\`, `\`, true)
	means(t, `\\*`, `\abc`, true)
	means(t, `\\\*`, `\*`, true)
	means(t, `\\\*`, `\a`, false)
	means(t, `\?`, "a", false)
	means(t, `\[a]`, "a", false)
	means(t, `\-`, "-", true)
	means(t, `\!`, "!", true)
	means(t, `\]`, "]", true)
}

// P23.2: items that are bytes, each byte of them, turned and not.
func TestItemsOfOneByte(t *testing.T) {
	for c, s := range allBytes() {
		if c == 0 || c == '/' {
			continue
		}
		meansBytes(t, `[\`+s+"]", oneOf(s))
		meansBytes(t, `[!\`+s+"]", noneOf(s))
		meansBytes(t, `[a\`+s+"]", oneOf("a"+s))
		switch c {
		case ']', '\\':
		case '!':
			meansBytes(t, "[!!]", noneOf("!"))
			meansBytes(t, "[a!]", oneOf("a!"))
			meansBytes(t, "[!a!]", noneOf("a!"))
		default:
			meansBytes(t, "["+s+"]", oneOf(s))
			meansBytes(t, "[!"+s+"]", noneOf(s))
			meansBytes(t, "["+s+s+"]", oneOf(s))
		}
	}
	meansBytes(t, "[abc]", oneOf("abc"))
	meansBytes(t, "[*?]", oneOf("*?"))
	meansBytes(t, "[.,]", oneOf(".,"))
	meansBytes(t, `[\\\]]`, oneOf(`\]`))
	meansBytes(t, `[!\\\]]`, noneOf(`\]`))
	meansBytes(t, `[\!]`, oneOf("!"))
	meansBytes(t, `[\!a]`, oneOf("!a"))
	meansBytes(t, `[a\!]`, oneOf("a!"))
	meansBytes(t, "[\xc3\xa9]", oneOf("\xc3\xa9"))
}

// P23.2: a ']' behind the set's end is a byte of its own; so is what stands behind it.
func TestBehindTheEnd(t *testing.T) {
	means(t, "[a]]", "a]", true)
	means(t, "[a]]", "a", false)
	means(t, "[a]]", "]", false)
	means(t, "[a-]]", "-]", true)
	means(t, "[a-]]", "a]", true)
	means(t, "[a-]]", "b]", false)
	means(t, "[a]-z]", "a-z]", true)
	means(t, "[a]!", "a!", true)
	means(t, `[\]]]`, "]]", true)
	means(t, "[a][b]", "ab", true)
	means(t, "[a][b]", "ba", false)
	means(t, "[a]*[b]", "axxb", true)
	means(t, "[a]-c", "b", false)
	means(t, "[a]-c", "a-c", true)
	means(t, "x[!a]y", "xby", true)
	means(t, "x[!a]y", "xy", false)
	means(t, "x[!a]y", "xay", false)
}

// P23.2: where a '-' is a byte, and where it makes a range.
func TestDash(t *testing.T) {
	meansBytes(t, "[-]", oneOf("-"))
	meansBytes(t, "[--]", oneOf("-"))
	meansBytes(t, "[---]", oneOf("-"))
	meansBytes(t, "[----]", oneOf("-"))
	meansBytes(t, "[-a]", oneOf("-a"))
	meansBytes(t, "[-ac]", oneOf("-ac"))
	meansBytes(t, "[-a-c]", oneOf("-abc"))
	meansBytes(t, "[--a]", from('-', 'a'))
	meansBytes(t, "[!-]", noneOf("-"))
	meansBytes(t, "[!-a]", noneOf("-a"))
	meansBytes(t, "[!--]", noneOf("-"))
	meansBytes(t, "[!---]", noneOf("-"))
	meansBytes(t, "[!-a-c]", noneOf("-abc"))
	meansBytes(t, "[a-]", oneOf("a-"))
	meansBytes(t, "[!a-]", noneOf("a-"))
	meansBytes(t, "[a-c-]", oneOf("abc-"))
	meansBytes(t, "[a-c-e]", oneOf("abc-e"))
	meansBytes(t, "[a-c-e-g]", oneOf("abc-efg"))
	meansBytes(t, "[a-c--]", oneOf("abc-"))
	meansBytes(t, "[a-c--0]", oneOf("abc-./0"))
	meansBytes(t, "[a-ce-g]", oneOf("abcefg"))
	meansBytes(t, "[xa-c]", oneOf("xabc"))
	meansBytes(t, "[a-cx]", oneOf("abcx"))
	meansBytes(t, "[+--]", oneOf("+,-"))
	meansBytes(t, "[+--a]", oneOf("+,-a"))
	meansBytes(t, "[+---]", oneOf("+,-"))
	meansBytes(t, "[!!-#]", noneOf("!\"#"))
	meansBytes(t, "[ -!]", oneOf(" !"))
}

// P23.2: a '-' behind a '\' makes no range, but may begin or end one.
func TestDashBehindBackslash(t *testing.T) {
	meansBytes(t, `[\-]`, oneOf("-"))
	meansBytes(t, `[a\-]`, oneOf("a-"))
	meansBytes(t, `[a\-c]`, oneOf("a-c"))
	meansBytes(t, `[c\-a]`, oneOf("a-c"))
	meansBytes(t, `[!a\-c]`, noneOf("a-c"))
	meansBytes(t, `[\--0]`, from('-', '0'))
	meansBytes(t, `[\-\-0]`, oneOf("-0"))
	meansBytes(t, `[+-\-]`, oneOf("+,-"))
	meansBytes(t, `[\--]`, oneOf("-"))
	meansBytes(t, `[\---]`, oneOf("-"))
	meansBytes(t, `[a-c\-e]`, oneOf("abc-e"))
}

// P23.2: either byte of a range, or both, behind a '\'.
func TestRanges(t *testing.T) {
	for _, p := range []string{"[a-d]", `[\a-d]`, `[a-\d]`, `[\a-\d]`} {
		meansBytes(t, p, oneOf("abcd"))
	}
	meansBytes(t, `[\[-\]]`, oneOf(`[\]`))
	meansBytes(t, `[[-\]]`, oneOf(`[\]`))
	meansBytes(t, `[A-\]]`, from('A', ']'))
	meansBytes(t, `[\\-a]`, from('\\', 'a'))
	meansBytes(t, `[\]-a]`, from(']', 'a'))
	meansBytes(t, `[A-\\]`, from('A', '\\'))
	meansBytes(t, `[\!-#]`, from('!', '#'))
	meansBytes(t, "[.-0]", oneOf("./0"))
	meansBytes(t, "[*-?]", from('*', '?'))
	meansBytes(t, "[!a-d]", noneOf("abcd"))
}

// P23.2: ranges of one byte, of all 255, of bytes above 127; and each that begins or ends with a byte.
func TestRangesOfAllBytes(t *testing.T) {
	all := func(byte) bool { return true }
	meansBytes(t, "[\x01-\xff]", func(c byte) bool { return c > 0 })
	meansBytes(t, "[!\x01-\xff]", func(c byte) bool { return c == 0 })
	meansBytes(t, "[!\x01-\x7f\x80-\xff]", func(c byte) bool { return c == 0 })
	meansBytes(t, "[\x01-a!b-\xff]", func(c byte) bool { return c > 0 })
	meansBytes(t, "?", all)
	meansBytes(t, "[\x80-\xff]", from(0x80, 0xff))
	meansBytes(t, "[!\x80-\xff]", from(0, 0x7f))
	meansBytes(t, "[\x7f-\x80]", from(0x7f, 0x80))
	meansBytes(t, "[\xc3\xa0-\xc3\xaf]", func(c byte) bool { return c == 0xc3 || c == 0xaf || 0xa0 <= c && c <= 0xc3 })
	for c, s := range allBytes() {
		if c == 0 || c == '/' {
			continue
		}
		low := byte(c)
		meansBytes(t, `[\`+s+`-\`+s+"]", from(low, low))
		meansBytes(t, `[\`+s+"-\xff]", from(low, 0xff))
		meansBytes(t, "[\x01-\\"+s+"]", from(1, low))
		meansBytes(t, "[!\x01-\\"+s+"]", func(x byte) bool { return x == 0 || x > low })
	}
}

// P23.2: a text that is no name may be meant like any other.
func TestTextsThatAreNoNames(t *testing.T) {
	for _, s := range []string{"", "/", "a/b", "\x00", "a\x00b", ".", "..", rep("x", 28), rep("x", 255), rep("x", 256), rep("x", 257), rep("x", 1023), rep("x", 1024), rep("x", 1025), rep("ab/", 100000)} {
		means(t, "*", s, true)
		means(t, "", s, s == "")
		means(t, "?", s, len(s) == 1)
		means(t, "?*", s, len(s) >= 1)
		means(t, "[!x]*", s, s != "" && s[0] != 'x')
		means(t, "*x", s, s != "" && s[len(s)-1] == 'x')
		means(t, "*[.-0]*", s, containsFrom(s, '.', '0'))
		means(t, "*?[!b]", s, len(s) >= 2 && s[len(s)-1] != 'b')
	}
	means(t, "a?b", "a/b", true)
	means(t, "a?b", "a\x00b", true)
	means(t, "a[!x]b", "a/b", true)
	means(t, "a[!x]b", "a\x00b", true)
	means(t, "a[.-0]b", "a/b", true)
	means(t, "ab", "a/b", false)
}

func containsFrom(s string, low, high byte) bool {
	for i := range len(s) {
		if low <= s[i] && s[i] <= high {
			return true
		}
	}
	return false
}

// P23.2: as many '?', bytes or sets as there are, of every number of them up to the greatest; a '*' at each place among them.
func TestManyPieces(t *testing.T) {
	for n := range 1025 {
		for m := max(n-1, 0); m <= n+1; m++ {
			means(t, rep("?", n), rep("a", m), m == n)
			means(t, rep("a", n), rep("a", m), m == n)
			if n > 0 {
				means(t, rep("?", n-1)+"*", rep("a", m), m >= n-1)
				means(t, rep("a", n-1)+"*", rep("a", m), m >= n-1)
				means(t, "*"+rep("a", n-1), rep("a", m), m >= n-1)
			}
		}
		if n == 0 {
			continue
		}
		means(t, rep("a", n), rep("a", n-1)+"b", false)
		means(t, rep("a", n), "b"+rep("a", n-1), false)
		k := n - 1
		p := rep("a", k) + "*" + rep("b", 1023-k)
		means(t, p, rep("a", k)+rep("b", 1023-k), true)
		means(t, p, rep("a", k)+"xyz"+rep("b", 1023-k), true)
		means(t, p, rep("a", k)+rep("b", 1024-k), true)
		means(t, p, rep("a", k)+rep("b", 1023-k)+"a", k == 1023)
		means(t, p, "b"+rep("a", k)+rep("b", 1023-k), k == 0)
	}
	for _, n := range []int{1, 21, 22, 63, 64, 65, 127, 128, 340, 341} {
		means(t, rep("[ab]", n*256/341), rep("ab", n)[:n*256/341], true)
		means(t, rep("[a]", n), rep("a", n), true)
		means(t, rep("[a]", n), rep("a", n-1), false)
		means(t, rep("[a]", n), rep("a", n-1)+"b", false)
	}
}
