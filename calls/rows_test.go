package calls_test

import (
	"fmt"
	"math/rand"
	"strings"
	"testing"

	"bole/api"
	"bole/calls"
)

// drawnText is a text of bytes of one sort or another.
func drawnText(r *rand.Rand) string {
	if r.Intn(4) == 0 {
		l := edgeTexts()
		return l[r.Intn(len(l))]
	}
	n := r.Intn(9)
	if r.Intn(50) == 0 {
		n = r.Intn(2000)
	}
	bytes := []string{"ab/", bareBytes, "a \"\\", "\\x41\"", " \n\t\x00", "aé日", "01-", ""}[r.Intn(8)]
	b := make([]byte, n)
	for i := range b {
		if b[i] = byte(r.Intn(256)); bytes != "" {
			b[i] = bytes[r.Intn(len(bytes))]
		}
	}
	return string(b)
}

// drawnNumber is one of few digits, of many, or at an edge.
func drawnNumber(r *rand.Rand) int {
	switch r.Intn(4) {
	case 0:
		return r.Intn(40) - 20
	case 1:
		l := edgeNumbers()
		return l[r.Intn(len(l))]
	case 2:
		return int(r.Uint64())
	}
	return int(r.Uint64()) >> r.Intn(64)
}

// drawnKind is a Kind, or, by times, none.
func drawnKind(r *rand.Rand) int {
	if r.Intn(20) == 0 {
		return noKinds()[r.Intn(len(noKinds()))]
	}
	return allKinds()[r.Intn(15)]
}

func drawnCall(r *rand.Rand) api.Call {
	return api.Call{Kind: drawnKind(r), Path: drawnText(r), Other: drawnText(r), Offset: drawnNumber(r), Size: drawnNumber(r), Data: drawnText(r)}
}

// drawnWord is a word that says a text: the one that Quote writes, or another.
func drawnWord(r *rand.Rand, s string) string {
	if r.Intn(3) > 0 {
		return plainQuote(s)
	}
	w := ""
	for i := range len(s) {
		switch c := s[i]; {
		case r.Intn(3) == 0:
			w += fmt.Sprintf([]string{`\x%02x`, `\x%02X`}[r.Intn(2)], c)
		case c == '"' || c == '\\':
			w += `\` + s[i:i+1]
		case c < ' ' || c > '~':
			w += fmt.Sprintf(`\x%02x`, c)
		default:
			w += s[i : i+1]
		}
	}
	return `"` + w + `"`
}

// drawnLine is a row that is this call's, blanks and words drawn.
func drawnLine(r *rand.Rand, c api.Call) string {
	row, _ := plainRowOf(c.Kind)
	line := row.command()
	for _, place := range row.places() {
		line += rep(" ", 1+r.Intn(3))
		if f := textField(&c, place); f != nil {
			line += drawnWord(r, *f)
		} else {
			line += fmt.Sprint(*numberField(&c, place))
		}
	}
	return rep(" ", r.Intn(3)) + line + rep(" ", r.Intn(3))
}

// spoiled is a text in which some bytes were put otherwise.
func spoiled(r *rand.Rand, s string) string {
	for range 1 + r.Intn(2) {
		at := r.Intn(len(s) + 1)
		end := min(len(s), at+r.Intn(3))
		s = s[:at] + []string{"", "", " ", `"`, `\`, "-", "0", "x", "\n", "\xff", "a b", `" "`}[r.Intn(12)] + s[end:]
	}
	return s
}

// P25.6: drawn texts: Unquote of Quote is the text; unlike texts are unlike words, without a blank outside of quotes and without a line break.
func TestDrawnTexts(t *testing.T) {
	r := rand.New(rand.NewSource(25))
	met := map[string]string{}
	for range 60000 {
		s := drawnText(r)
		quotes(t, s, plainQuote(s))
		says(t, drawnWord(r, s), s)
		w := calls.Quote(s)
		if other, ok := met[w]; ok && other != s {
			t.Errorf("P25.6: Quote(%s) and Quote(%s) are both %s", short(s), short(other), short(w))
		}
		met[w] = s
		if !strings.HasPrefix(w, `"`) && strings.Contains(w, " ") || strings.ContainsFunc(w, func(c rune) bool { return c < ' ' || c > '~' }) {
			t.Errorf("P25.6: Quote(%s) is %s", short(s), short(w))
		}
	}
}

// P25.2: drawn words, spoiled ones, and any bytes, held against the chapter's words said plainly.
func TestDrawnWords(t *testing.T) {
	r := rand.New(rand.NewSource(26))
	words, others := 0, 0
	for range 60000 {
		w := drawnText(r)
		if r.Intn(3) > 0 {
			w = spoiled(r, drawnWord(r, w))
		}
		if asPlainWord(t, w) {
			words++
		} else {
			others++
		}
	}
	if words < 15000 || others < 15000 {
		t.Errorf("%d were words, %d not", words, others)
	}
}

// P25.3, P25.6: drawn calls: Print of them, and Parse of that; unlike calls are printed unlike.
func TestDrawnCalls(t *testing.T) {
	r := rand.New(rand.NewSource(27))
	met := map[string]api.Call{}
	for range 40000 {
		c := drawnCall(r)
		want, ok := plainPrint(c)
		if !ok {
			printsNot(t, c)
			continue
		}
		prints(t, c, want)
		line, _ := calls.Print(c)
		if other, ok := met[line]; ok && other != bare(c) {
			t.Errorf("P25.6: %+v and %+v are both printed %s", c, other, short(line))
		}
		met[line] = bare(c)
		if strings.ContainsFunc(line, func(c rune) bool { return c < ' ' || c > '~' }) {
			t.Errorf("P25.6: Print(%+v) = %s", c, short(line))
		}
	}
}

// P25.4, P25.6: drawn rows, blanks put in and words written otherwise: the same call, whose row Print makes; spoiled ones, and any bytes.
func TestDrawnLines(t *testing.T) {
	r := rand.New(rand.NewSource(28))
	rows, others := 0, 0
	for range 40000 {
		c := drawnCall(r)
		if _, ok := plainRowOf(c.Kind); !ok {
			c.Kind = api.CallRename
		}
		line := drawnLine(r, c)
		isRow(t, line, bare(c))
		asPlainRow(t, line)
		if r.Intn(20) == 0 {
			line = drawnText(r)
		} else {
			line = spoiled(r, line)
		}
		if asPlainRow(t, line) {
			rows++
		} else {
			others++
		}
	}
	if rows < 5000 || others < 5000 {
		t.Errorf("%d spoiled lines were rows, %d not", rows, others)
	}
}

// P25.4: all short rows of a few words, right and wrong ones.
func TestEveryRowOfWords(t *testing.T) {
	words := []string{"create", "rename", "read", "room", "a", `"a b"`, "1", "-1", "01", `"`}
	lines, rows := []string{""}, 0
	for from := 0; len(lines) < 11000; {
		to := len(lines)
		for _, line := range lines[from:to] {
			for _, w := range words {
				lines = append(lines, line+w+" ")
			}
		}
		from = to
	}
	for _, line := range lines {
		if asPlainRow(t, line) {
			rows++
		}
		asPlainRow(t, strings.TrimSuffix(line, " "))
	}
	if rows < 150 {
		t.Errorf("just %d are rows", rows)
	}
}

func drawnAnswer(r *rand.Rand) api.Answer {
	a := api.Answer{N: drawnNumber(r), Data: drawnText(r)}
	a.Stat = api.Stat{Inode: drawnNumber(r), Kind: drawnNumber(r), Links: drawnNumber(r), Size: drawnNumber(r), Blocks: drawnNumber(r)}
	a.Room = api.Room{FreeBlocks: drawnNumber(r), Blocks: drawnNumber(r), FreeInodes: drawnNumber(r), Inodes: drawnNumber(r)}
	for range r.Intn(5) {
		a.Names = append(a.Names, drawnText(r))
	}
	if r.Intn(8) == 0 {
		a.Err = api.Errno(drawnNumber(r))
	}
	return a
}

// toldOf is what of an answer of a Kind is told.
func toldOf(kind int, a api.Answer) string {
	if a.Err != api.OK {
		return fmt.Sprintf("error %d", int(a.Err))
	}
	r, _ := plainRowOf(kind)
	return fmt.Sprintf("%#v", map[string]any{"N": a.N, "DATA": a.Data, "STAT": a.Stat, "NAMES": a.Names, "ROOM": a.Room}[r.told])
}

// P25.5, P25.6: drawn answers of drawn calls; two of one Kind that differ in what is told are told unlike.
func TestDrawnAnswers(t *testing.T) {
	r := rand.New(rand.NewSource(29))
	met := map[int]map[string]string{}
	for range 40000 {
		c, a := drawnCall(r), drawnAnswer(r)
		tells(t, c, a, plainTell(c, a))
		if met[c.Kind] == nil {
			met[c.Kind] = map[string]string{}
		}
		told, what := calls.Tell(c, a), toldOf(c.Kind, a)
		if other, ok := met[c.Kind][told]; ok && other != what {
			t.Errorf("P25.6: of Kind %d %s and %s are both told %s", c.Kind, other, what, short(told))
		}
		met[c.Kind][told] = what
	}
}

// P25.6: answers that nearly are the same: names that were parted otherwise, texts that look like what is told of others, numbers that run together.
func TestAnswersToldUnlike(t *testing.T) {
	alphabet := []string{"", "a", "b", "ab", "a b", " ", "\n", "a\nb", `"a"`, "0", "1", "2\na"}
	lists := [][]string{nil}
	for from := 0; len(lists) < 1800; {
		to := len(lists)
		for _, l := range lists[from:to] {
			for _, s := range alphabet {
				lists = append(lists, append(append([]string{}, l...), s))
			}
		}
		from = to
	}
	met := map[string][]string{}
	for _, l := range lists {
		told := calls.Tell(api.Call{Kind: api.CallReaddir}, api.Answer{Names: l})
		if other, ok := met[told]; ok {
			t.Errorf("P25.6: the names %q and %q are both told %q", l, other, told)
		}
		met[told] = l
	}
	stats := map[string]api.Stat{}
	for at := range 3 * 3 * 3 * 3 * 3 {
		v := []int{1, 11, -1}
		s := api.Stat{Inode: v[at%3], Kind: v[at/3%3], Links: v[at/9%3], Size: v[at/27%3], Blocks: v[at/81%3]}
		told := calls.Tell(api.Call{Kind: api.CallLstat}, api.Answer{Stat: s})
		if other, ok := stats[told]; ok {
			t.Errorf("P25.6: %v and %v are both told %q", s, other, told)
		}
		stats[told] = s
	}
}

// P25.7: any bytes as words and lines, and the chapter's words said plainly beside them.
func TestAnyBytes(t *testing.T) {
	for _, s := range every("\"\\x4 a-0\n\xff", 5) {
		asPlainWord(t, s)
		asPlainRow(t, s)
	}
	for _, s := range every("\" \\1a-", 5) {
		asPlainRow(t, "create "+s)
		asPlainRow(t, "rename "+s)
		asPlainRow(t, "truncate a "+s)
		asPlainRow(t, "room"+s)
	}
	r := rand.New(rand.NewSource(30))
	for range 20000 {
		b := make([]byte, r.Intn(40))
		r.Read(b)
		asPlainWord(t, string(b))
		asPlainRow(t, string(b))
		asPlainRow(t, allRow(r)+" "+string(b))
		quotes(t, string(b), plainQuote(string(b)))
	}
}

// allRow is any row's command.
func allRow(r *rand.Rand) string { return plainRows()[r.Intn(15)].command() }
