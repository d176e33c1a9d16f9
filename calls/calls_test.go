package calls_test

import (
	"fmt"
	"math"
	"strings"
	"testing"

	"bole/api"
	"bole/calls"
)

func rep(s string, n int) string { return strings.Repeat(s, n) }

// short is a text as a message tells it.
func short(s string) string { return fmt.Sprintf("%.60q (%d bytes)", s, len(s)) }

// allBytes are the texts of one byte.
func allBytes() []string {
	l := make([]string, 256)
	for c := range l {
		l[c] = string([]byte{byte(c)})
	}
	return l
}

// every is all texts of at most so many of these bytes.
func every(bytes string, most int) []string {
	l := []string{""}
	for from := 0; most > 0; most-- {
		to := len(l)
		for _, s := range l[from:to] {
			for i := range len(bytes) {
				l = append(l, s+bytes[i:i+1])
			}
		}
		from = to
	}
	return l
}

// edgeNumbers are numbers at the edges of what may be, and some others.
func edgeNumbers() []int {
	return []int{0, 1, -1, 7, 9, 10, -10, 512, 16385, 1 << 31, -1 << 31, 1<<53 + 1, math.MaxInt, math.MaxInt - 1, math.MinInt, math.MinInt + 1}
}

// edgeTexts are texts of each kind that a field may have.
func edgeTexts() []string {
	return []string{"", "/", "/a", "a", " ", "  ", "/a b", " a", "a ", "\n", "a\nb", "\r\n", "\t", "\x00", "\x7f", "\xff", "\xc3\xa9", `"`, `""`, `"a"`, `\`, `\\`, `\x41`, `\"`, `a"`, "-", "-1", "0", "007", "room", "ok", "! E160", "#", "~", rep("/x", 512), rep(" ", 100), rep("\xfe", 100)}
}

// allKinds are the Kinds there are.
func allKinds() []int {
	var l []int
	for _, r := range plainRows() {
		l = append(l, r.kind)
	}
	return l
}

// noKinds are numbers that are no Kind.
func noKinds() []int {
	return []int{0, -1, -2, -15, -16, 16, 17, 31, 32, 255, 256, 257, 271, 1 << 16, 1<<16 + 1, 1<<32 + 1, 1<<32 + 15, math.MaxInt, math.MinInt, math.MinInt + 1}
}

// quotes holds that a text is quoted so, and read again.
func quotes(t *testing.T, s, want string) {
	t.Helper()
	w := calls.Quote(s)
	if w != want {
		t.Errorf("P25.1: Quote(%s) = %s, want %s", short(s), short(w), short(want))
	}
	if back, e := calls.Unquote(w); back != s || e != api.OK {
		t.Errorf("P25.6: Unquote(%s) = %s, %d, want %s", short(w), short(back), e, short(s))
	}
}

// says holds that a text is a word, and what it says.
func says(t *testing.T, w, want string) {
	t.Helper()
	if s, e := calls.Unquote(w); s != want || e != api.OK {
		t.Errorf("P25.2: Unquote(%s) = %s, %d, want %s", short(w), short(s), e, short(want))
	}
}

// noWord holds that a text is no word, also not where a row has one.
func noWord(t *testing.T, w string) {
	t.Helper()
	if s, e := calls.Unquote(w); s != "" || e != api.ErrLine {
		t.Errorf("P25.2: Unquote(%s) = %s, %d, want none, %d", short(w), short(s), e, api.ErrLine)
	}
}

// prints holds that a call is printed so, and read again.
func prints(t *testing.T, c api.Call, want string) {
	t.Helper()
	line, e := calls.Print(c)
	if line != want || e != api.OK {
		t.Errorf("P25.3: Print(%+v) = %s, %d, want %s", c, short(line), e, short(want))
	}
	if back, e := calls.Parse(line); back != bare(c) || e != api.OK {
		t.Errorf("P25.6: Parse(%s) = %+v, %d, want %+v", short(line), back, e, bare(c))
	}
}

// printsNot holds that a call is none.
func printsNot(t *testing.T, c api.Call) {
	t.Helper()
	if line, e := calls.Print(c); line != "" || e != api.ErrInval {
		t.Errorf("P25.3: Print(%+v) = %s, %d, want none, %d", c, short(line), e, api.ErrInval)
	}
}

// isRow holds that a line is this call.
func isRow(t *testing.T, line string, want api.Call) {
	t.Helper()
	if c, e := calls.Parse(line); c != want || e != api.OK {
		t.Errorf("P25.4: Parse(%s) = %+v, %d, want %+v", short(line), c, e, want)
	}
}

// noRow holds that a line is none.
func noRow(t *testing.T, line string) {
	t.Helper()
	if c, e := calls.Parse(line); c != (api.Call{}) || e != api.ErrLine {
		t.Errorf("P25.4: Parse(%s) = %+v, %d, want none, %d", short(line), c, e, api.ErrLine)
	}
}

// tells holds that an answer is told so.
func tells(t *testing.T, c api.Call, a api.Answer, want string) {
	t.Helper()
	if s := calls.Tell(c, a); s != want {
		t.Errorf("P25.5: Tell(%+v, %+v) = %s, want %s", c, a, short(s), short(want))
	}
}

// asPlainWord holds a text against the chapter's words said plainly, and tells whether it is a word.
func asPlainWord(t *testing.T, w string) bool {
	t.Helper()
	s, ok := plainUnquote(w)
	if ok {
		says(t, w, s)
	} else {
		noWord(t, w)
	}
	return ok
}

// asPlainRow holds a line against the chapter's words said plainly, and tells whether it is a row. What is one is printed as its one row, which is taken as the same call and printed the same.
func asPlainRow(t *testing.T, line string) bool {
	t.Helper()
	c, ok := plainParse(line)
	if !ok {
		noRow(t, line)
		return false
	}
	isRow(t, line, c)
	row, _ := plainPrint(c)
	prints(t, c, row)
	return true
}
