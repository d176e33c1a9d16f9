package glob_test

import (
	"testing"
)

// rightPatterns are patterns of each kind of piece, to be spoiled.
func rightPatterns() []string {
	return []string{"", "a", "abc", "*", "?", "a*b?c", "**", "[a]", "[!a]", "[a-c]", "[!a-cx]", "[-]", "[!-]", "[a-]", "[---]", `\a`, `\\`, `\*`, `\[`, `\]`, `[\]]`, `[\\]`, `[a-\c]`, `[\a-c]`, "]", "!", "-", "a]b", "x[a-c]y*?", "\x80", "[\x80-\xff]"}
}

// P23.1: those are patterns.
func TestRightPatterns(t *testing.T) {
	for _, p := range rightPatterns() {
		isPattern(t, p)
	}
}

// P23.1: a single '\' at the end, also inside of '['.
func TestSingleBackslash(t *testing.T) {
	for _, p := range rightPatterns() {
		noPattern(t, p+`\`)
		noPattern(t, p+`\\\`)
		isPattern(t, p+`\\`)
		isPattern(t, p+`\\\\`)
	}
	for _, p := range []string{`\`, `\\\`, `[\`, `[a\`, `[!\`, `[a-\`, `[a-c\`, `[\\\`, `*\`, `?\`, `[a]\`, rep(`\`, 1023)} {
		noPattern(t, p)
	}
	means(t, rep(`\`, 1024), rep(`\`, 512), true)
}

// P23.1: a '[' without its ']'; inside of another one, or behind a '\', it is a byte.
func TestNoEnd(t *testing.T) {
	for _, p := range []string{"[", "[a", "[!", "[!a", "[a-", "[a-c", "[-", "[!-", `[\]`, `[a\]`, `[a-\]`, `[!\]`, "[[", "[*", "[?", "a[", "*[a", "[a][", "[a][b", "[a]b[c", `\[[`, `[\]\]`, `[a-z\]`, "[\xff"} {
		noPattern(t, p)
	}
	means(t, "[[]", "[", true)
	means(t, "[[a]", "[", true)
	means(t, "[a[]", "[", true)
	means(t, "[a[]", "b", false)
	means(t, "[[[]", "[", true)
	means(t, `\[a`, "[a", true)
	means(t, `\[a]`, "[a]", true)
	means(t, "[[]]", "[]", true)
	means(t, "[[]]", "[", false)
}

// P23.1: a '[' without an item, with '!' and without.
func TestNoItem(t *testing.T) {
	for _, p := range []string{"[]", "[!]", "[]]", "[!]]", "[]a]", "[!]a]", "a[]", "[]a", "*[!]*", "[a][]", "[!a][!]", `\[[]`, "[]-a]", `[]\]`, "[]!]"} {
		noPattern(t, p)
	}
}

// P23.1: a range whose second byte is below the first, with either of them behind a '\'.
func TestRangeBelow(t *testing.T) {
	for _, p := range []string{"[z-a]", `[\z-a]`, `[z-\a]`, `[\z-\a]`, "[!z-a]", "[b-a]", "[xb-a]", "[a-cz-y]", "[a-c--+]", "[a--]", "[a-!]", `[a-\]]`, `[a-\\]`, `[\]-\[]`, `[\]-[]`, "[\xff-\x01]", "[\xff-\x7f]", "[\x80-\x7f]", "[\xff-\xfe]", "[\x02-\x01]", "[--+]", `[\--+]`, `[--\+]`, "[0--]", `[0-\-]`, "[a-Z]", "[!!-!!-\x01]"} {
		noPattern(t, p)
	}
	// Of the same two bytes the other way round, and of equal ones, they are ranges.
	for _, p := range []string{"[a-z]", `[\a-z]`, `[a-\z]`, `[\a-\z]`, "[!a-z]", "[--a]", `[\[-\]]`, "[\x01-\xff]", "[\x7f-\x80]", "[+--]", "[---]", "[!!-a]", "[a-a]", "[\xff-\xff]"} {
		isPattern(t, p)
	}
}

// P23.1: a '/' and a zero byte at each place: outside, inside of '[', as either byte of a range, behind a '\'.
func TestSlashAndZero(t *testing.T) {
	for _, p := range append(rightPatterns(), rep("a", 1023), rep(`\a`, 511), rep("[a]", 341)) {
		for at := range len(p) + 1 {
			if len(p) > 100 && at%97 != 0 && at != len(p) {
				continue
			}
			for _, c := range []string{"/", "\x00", "/\x00", `\/`, "\\\x00"} {
				noPattern(t, p[:at]+c+p[at:])
			}
			if at < len(p) {
				noPattern(t, p[:at]+"/"+p[at+1:])
				noPattern(t, p[:at]+"\x00"+p[at+1:])
			}
		}
	}
	for _, p := range []string{"/", "\x00", "[/]", "[\x00]", "[!/]", "[!\x00]", "[a-/]", "[.-/]", "[/-0]", "[\x00-a]", `[\/]`, "[\\\x00]", `[.-\/]`, "[\\\x00-a]"} {
		noPattern(t, p)
	}
}

// P23.1: 1024 bytes and 1025, of each kind of piece.
func TestLengths(t *testing.T) {
	for _, p := range []string{rep("a", 1024), rep("*", 1024), rep("?", 1024), rep(`\a`, 512), "[" + rep("a", 1022) + "]", "[!" + rep("a", 1021) + "]", rep("[a]", 341) + "a", "[" + rep("a-c", 340) + "xy]", rep("\xff", 1024), rep("]", 1024)} {
		if len(p) != 1024 {
			t.Fatalf("%s", short(p))
		}
		means(t, p, "no", p[0] == '*')
		noPattern(t, p+"a")
		noPattern(t, "*"+p)
		noPattern(t, p+"/")
		noPattern(t, p+p)
		means(t, p[1:], "no", p[1] == '*')
	}
	for _, p := range []string{rep("a", 1023) + `\`, rep("a", 1023) + "[", rep("[", 1024), "[" + rep("a", 1023), rep("a", 1021) + "[!]", "[" + rep("z-a", 340) + "xx]", rep("x", 1<<20), rep("*", 1<<20), rep("[", 1<<20)} {
		noPattern(t, p)
	}
}
