package glob_test

import (
	"math/rand"
	"strings"
	"testing"

	"bole/api"
	"bole/glob"
)

// The chapter's words said plainly: a pattern as a row of pieces, each a question that is asked of a part of the text.

// sign is a byte of a pattern; marked: no '\' stands ahead of it, so it may be a mark.
type sign struct {
	c      byte
	marked bool
}

func (s sign) is(c byte) bool { return s.marked && s.c == c }

// signs takes each '\' together with its byte.
func signs(pattern string) ([]sign, bool) {
	var l []sign
	for i := 0; i < len(pattern); i++ {
		if pattern[i] != '\\' {
			l = append(l, sign{pattern[i], true})
			continue
		}
		i++
		if i == len(pattern) {
			return nil, false
		}
		l = append(l, sign{pattern[i], false})
	}
	return l, true
}

// plainPiece is what a piece says of a part of a text.
type plainPiece func(part string) bool

func anyPart(string) bool { return true }

func onePart(part string) bool { return len(part) == 1 }

func exactly(c byte) plainPiece { return func(part string) bool { return part == string([]byte{c}) } }

// plainSet is the piece of what stands between '[' and ']'.
func plainSet(l []sign) (plainPiece, bool) {
	turned := len(l) > 0 && l[0].is('!')
	if turned {
		l = l[1:]
	}
	if len(l) == 0 {
		return nil, false
	}
	meant := map[byte]bool{}
	for len(l) > 0 {
		if len(l) < 3 || !l[1].is('-') {
			meant[l[0].c] = true
			l = l[1:]
			continue
		}
		low, high := int(l[0].c), int(l[2].c)
		if high < low {
			return nil, false
		}
		for c := low; c <= high; c++ {
			meant[byte(c)] = true
		}
		l = l[3:]
	}
	return func(part string) bool { return len(part) == 1 && meant[part[0]] != turned }, true
}

func plainPieces(pattern string) ([]plainPiece, bool) {
	l, ok := signs(pattern)
	if !ok || len(pattern) > 1024 || strings.Contains(pattern, "/") || strings.Contains(pattern, "\x00") {
		return nil, false
	}
	var pieces []plainPiece
	for len(l) > 0 {
		first := l[0]
		l = l[1:]
		switch {
		case first.is('*'):
			pieces = append(pieces, anyPart)
		case first.is('?'):
			pieces = append(pieces, onePart)
		case first.is('['):
			end := 0
			for end < len(l) && !l[end].is(']') {
				end++
			}
			if end == len(l) {
				return nil, false
			}
			piece, ok := plainSet(l[:end])
			if !ok {
				return nil, false
			}
			pieces = append(pieces, piece)
			l = l[end+1:]
		default:
			pieces = append(pieces, exactly(first.c))
		}
	}
	return pieces, true
}

// cuts tries all cuts of a text.
func cuts(pieces []plainPiece, text string) bool {
	if len(pieces) == 0 {
		return text == ""
	}
	for at := range len(text) + 1 {
		if pieces[0](text[:at]) && cuts(pieces[1:], text[at:]) {
			return true
		}
	}
	return false
}

// cutsSoon is the same for longer ones: which beginnings of the text the first pieces mean, piece by piece.
func cutsSoon(pieces []plainPiece, text string) bool {
	meant := make([]bool, len(text)+1)
	meant[0] = true
	for _, piece := range pieces {
		next := make([]bool, len(text)+1)
		for from, is := range meant {
			for to := from; is && to <= len(text); to++ {
				next[to] = next[to] || piece(text[from:to])
			}
		}
		meant = next
	}
	return meant[len(text)]
}

// asPlain holds a pattern against the plain words, of some texts.
func asPlain(t *testing.T, pattern string, texts []string, means func([]plainPiece, string) bool) {
	t.Helper()
	pieces, ok := plainPieces(pattern)
	want := api.OK
	if !ok {
		want = api.ErrPattern
	}
	if e := glob.Check(pattern); e != want {
		t.Errorf("P23.1: Check(%q) = %d, want %d", pattern, e, want)
	}
	for _, text := range texts {
		is := ok && means(pieces, text)
		if got, e := glob.Match(pattern, text); got != is || e != want {
			t.Errorf("P23.2: Match(%q, %q) = %v, %d, want %v, %d", pattern, text, got, e, is, want)
		}
	}
}

// P23.1, P23.2: every short pattern and every short text, by trying all cuts.
func TestEveryShortPattern(t *testing.T) {
	texts := every("ab-]", 2)
	for _, p := range every(`*?[]!-\ab`, 5) {
		asPlain(t, p, texts, cuts)
	}
}

// P23.1, P23.2: somewhat longer texts.
func TestEveryShortText(t *testing.T) {
	texts := every("ab-", 4)
	for _, p := range every(`*?[]!\ab`, 4) {
		asPlain(t, p, texts, cuts)
	}
	texts = every("ab", 6)
	for _, p := range every("*?ab", 6) {
		asPlain(t, p, texts, cuts)
	}
}

// P23.1, P23.2: all that may stand inside of a '['.
func TestEveryShortSet(t *testing.T) {
	texts := append(every(`!-,[\]ab`, 1), "--", "]]", "-]", "a]")
	for _, p := range every(`!-\]b+`, 6) {
		asPlain(t, "["+p+"]", texts, cuts)
	}
	for _, p := range every("\\-\x01\x7f\x80\xff", 5) {
		asPlain(t, "["+p+"]", []string{"\x00", "\x01", "\x02", "\x7e", "\x7f", "\x80", "\x81", "\xfe", "\xff", "\\", "-", ""}, cuts)
	}
}

// P23.1: '/' and zero bytes at all places of short patterns.
func TestEveryShortWrongByte(t *testing.T) {
	for _, p := range every("*[]\\a/\x00", 5) {
		asPlain(t, p, []string{"a", "/", "\x00"}, cuts)
	}
}

// anyPattern is a text that is often a pattern.
func anyPattern(r *rand.Rand, most int) string {
	var s strings.Builder
	for s.Len() < most {
		switch r.Intn(12) {
		case 0, 1:
			s.WriteString("*")
		case 2:
			s.WriteString("?")
		case 3:
			s.WriteString("[" + anyItems(r) + "]")
		case 4:
			s.WriteString("[!" + anyItems(r) + "]")
		case 5:
			s.WriteString(`\` + string(`*?[]\!-ab`[r.Intn(9)]))
		case 6:
			s.WriteByte(`]!-.`[r.Intn(4)])
		default:
			s.WriteByte("aab\xff"[r.Intn(4)])
		}
		if r.Intn(100) == 0 {
			s.WriteByte("[\\/\x00"[r.Intn(4)])
		}
	}
	return s.String()
}

// anyItems are items of a '[', seldom wrong ones.
func anyItems(r *rand.Rand) string {
	s := ""
	for range 1 + r.Intn(4) {
		switch r.Intn(6) {
		case 0:
			s += "a-c"
		case 1:
			s += `\` + string(`]\-!a`[r.Intn(5)])
		case 2:
			s += "-"
		case 3:
			s += string([]byte{"ab+"[r.Intn(3)], '-', "bc\xff"[r.Intn(3)]})
		default:
			s += string([]byte{"ab!-[*\xff"[r.Intn(7)]})
		}
	}
	return s
}

// anyText is a text of bytes that patterns often mean.
func anyText(r *rand.Rand, most int) string {
	b := make([]byte, r.Intn(most+1))
	for i := range b {
		b[i] = "aaaabbbc-]![*\\\xff."[r.Intn(16)]
	}
	return string(b)
}

// P23.1, P23.2: longer patterns and texts, drawn.
func TestDrawnPatterns(t *testing.T) {
	r := rand.New(rand.NewSource(23))
	meant := 0
	for range 20000 {
		p := anyPattern(r, 1+r.Intn(12))
		texts := []string{anyText(r, 8), anyText(r, 20), "", p, drawnOf(r, p)}
		asPlain(t, p, texts, cutsSoon)
		if is, _ := glob.Match(p, texts[1]); is {
			meant++
		}
	}
	for range 60 {
		p := anyPattern(r, 1000)
		asPlain(t, p, []string{anyText(r, 100), drawnOf(r, p)}, cutsSoon)
	}
	if meant < 500 {
		t.Errorf("only %d texts were meant", meant)
	}
}

// drawnOf is a text that the pattern means, if it is one.
func drawnOf(r *rand.Rand, pattern string) string {
	pieces, _ := plainPieces(pattern)
	text := ""
	for _, piece := range pieces {
		if piece("") {
			text += anyText(r, 3)
			continue
		}
		start := r.Intn(256)
		for k := range 256 {
			if c := string([]byte{byte(start + k)}); piece(c) {
				text += c
				break
			}
		}
	}
	return text
}
