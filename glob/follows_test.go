package glob_test

import (
	"math/rand"
	"strings"
	"testing"

	"bole/api"
	"bole/glob"
)

// quoted is a text with a '\' laid ahead of each of its marks.
func quoted(text string) string {
	return strings.NewReplacer("*", `\*`, "?", `\?`, "[", `\[`, `\`, `\\`).Replace(text)
}

// P23.5: such a text is a pattern that means just that text: of every short one, held against every other.
func TestQuotedShort(t *testing.T) {
	texts := every(`*?[]\!-a`, 3)
	for _, s := range texts {
		p := quoted(s)
		for _, other := range texts {
			if is, e := glob.Match(p, other); is != (s == other) || e != api.OK {
				t.Fatalf("P23.5: Match(%q, %q) = %v, %d", p, other, is, e)
			}
		}
	}
}

// P23.5: of longer texts of any bytes, held against those that are changed somewhere.
func TestQuotedLong(t *testing.T) {
	r := rand.New(rand.NewSource(5))
	for range 1000 {
		b := make([]byte, 1+r.Intn(600))
		for i := range b {
			b[i] = byte(1 + r.Intn(255))
			if b[i] == '/' || r.Intn(3) == 0 {
				b[i] = `*?[]\!-a`[r.Intn(8)]
			}
		}
		s := string(b)
		p := quoted(s)
		if len(p) > 1024 {
			noPattern(t, p)
			continue
		}
		means(t, p, s, true)
		at := r.Intn(len(b))
		means(t, p, s[:at]+s[at+1:], false)
		means(t, p, s[:at]+"x"+s[at:], false)
		means(t, p, s+"x", false)
		b[at] ^= 1 << r.Intn(8)
		means(t, p, string(b), false)
	}
	means(t, rep(`\*`, 512), rep("*", 512), true)
	noPattern(t, quoted(rep("*", 513)))
}

// P23.5: if p means x and q means y, the two patterns one behind the other mean the two texts one behind the other.
func TestOneBehindTheOther(t *testing.T) {
	r := rand.New(rand.NewSource(6))
	count := 0
	for range 20000 {
		p, q := anyPattern(r, r.Intn(10)), anyPattern(r, r.Intn(10))
		x, y := drawnOf(r, p), drawnOf(r, q)
		if is, e := glob.Match(p, x); !is || e != api.OK {
			continue
		}
		if is, e := glob.Match(q, y); !is || e != api.OK {
			continue
		}
		count++
		means(t, p+q, x+y, true)
		means(t, q+p, y+x, true)
		means(t, p+p+q, x+x+y, true)
	}
	if count < 10000 {
		t.Errorf("only %d rows", count)
	}
}

// P23.5: '*' means every text, as many '?' every text of as many bytes.
func TestEveryText(t *testing.T) {
	r := rand.New(rand.NewSource(7))
	for range 1000 {
		b := make([]byte, r.Intn(1025))
		r.Read(b)
		means(t, "*", string(b), true)
		means(t, rep("?", len(b)), string(b), true)
		if n := r.Intn(1025); n != len(b) {
			means(t, rep("?", n), string(b), false)
		}
	}
}

// P23.5: '[!x]' means just the texts of one byte that '[x]' doesn't; a longer or shorter one neither means.
func TestTurned(t *testing.T) {
	r := rand.New(rand.NewSource(8))
	rows := append(every(`-\]ab+`, 4), "\x01-\xff", "\x80-\xff", "a!", `\!`, `\!a`, "-!")
	for range 2000 {
		rows = append(rows, anyItems(r)+anyItems(r))
	}
	count := 0
	for _, x := range rows {
		in, out := "["+x+"]", "[!"+x+"]"
		if strings.HasPrefix(x, "!") || glob.Check(in) != api.OK {
			continue
		}
		if pieces, _ := plainPieces(in); len(pieces) != 1 {
			continue
		}
		count++
		for _, c := range allBytes() {
			is, e := glob.Match(in, c)
			not, err := glob.Match(out, c)
			if is == not || e != api.OK || err != api.OK {
				t.Errorf("P23.5: Match(%q, %q) = %v, %d, Match(%q, ..) = %v, %d", in, c, is, e, out, not, err)
			}
		}
		for _, s := range []string{"", "ab", "--", x + "xx"} {
			means(t, in, s, false)
			means(t, out, s, false)
		}
	}
	if count < 1000 {
		t.Errorf("only %d rows", count)
	}
}
