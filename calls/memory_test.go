package calls_test

import (
	"runtime"
	"slices"
	"strings"
	"sync"
	"testing"
	"time"
	"unsafe"

	"bole/api"
	"bole/calls"
)

// shares tells whether two texts have memory in common. (Those of one byte Go itself may take out of a table.)
func shares(a, b string) bool {
	if len(a) < 2 || len(b) < 2 {
		return false
	}
	x, y := uintptr(unsafe.Pointer(unsafe.StringData(a))), uintptr(unsafe.Pointer(unsafe.StringData(b)))
	return x < y+uintptr(len(b)) && y < x+uintptr(len(a))
}

// apart holds that no two of some texts have memory in common.
func apart(t *testing.T, what string, l ...string) {
	t.Helper()
	for i := range l {
		for _, other := range l[:i] {
			if shares(l[i], other) {
				t.Errorf("P25.7: %s: %s and %s lie in the same memory", what, short(l[i]), short(other))
			}
		}
	}
}

// P25.7: words and what they say are new memory.
func TestWordsAreNew(t *testing.T) {
	for _, s := range append(edgeTexts(), rep("a", 5000)) {
		s = strings.Clone(s)
		w := calls.Quote(s)
		said, _ := calls.Unquote(w)
		apart(t, "Quote", s, w, calls.Quote(s), said)
	}
	for _, w := range []string{"/a", rep("b", 5000), `"a"`, `"a b"`, `"\x41"`, `"\""`} {
		w = strings.Clone(w)
		first, _ := calls.Unquote(w)
		second, _ := calls.Unquote(w)
		apart(t, "Unquote", w, first, second)
	}
}

// P25.7: lines, the fields that they say, and what is told are new memory.
func TestLinesAreNew(t *testing.T) {
	for line := range rightLines() {
		line = strings.Clone(line)
		c, _ := calls.Parse(line)
		again, _ := calls.Parse(line)
		apart(t, "Parse", line, c.Path, c.Other, c.Data, again.Path, again.Other, again.Data)
	}
	for _, kind := range allKinds() {
		for _, s := range []string{"/a", "a b", rep("x", 1000)} {
			c := api.Call{Kind: kind, Path: strings.Clone(s), Other: strings.Clone(s), Data: strings.Clone(s)}
			line, _ := calls.Print(c)
			apart(t, "Print", c.Path, c.Other, c.Data, line)
			a := api.Answer{Data: strings.Clone(s), Names: []string{strings.Clone(s), strings.Clone(s)}}
			apart(t, "Tell", a.Data, a.Names[0], a.Names[1], c.Path, c.Other, c.Data, calls.Tell(c, a))
		}
	}
}

// W3: a list of names is neither changed nor kept, nor is the room behind it.
func TestNamesStay(t *testing.T) {
	room := []string{"b", "", "a b", "behind", "more"}
	was := slices.Clone(room)
	a := api.Answer{Names: room[:3]}
	told := calls.Tell(api.Call{Kind: api.CallReaddir}, a)
	if !slices.Equal(room, was) || len(a.Names) != 3 {
		t.Errorf("W3: Tell has changed the names: %q", room)
	}
	for i := range room {
		room[i] = "written over"
	}
	if want := "3\nb\n\"\"\n\"a b\""; told != want {
		t.Errorf("W3: what was told is %q, want %q", told, want)
	}
}

// W3: what becomes of a text's memory behind a call changes nothing that was answered.
func TestTextsStay(t *testing.T) {
	over := func(s string, ask func(s string) []string) {
		t.Helper()
		b := []byte(s)
		got := ask(unsafe.String(unsafe.SliceData(b), len(b)))
		if string(b) != s {
			t.Errorf("W3: %s was changed: %q", short(s), b)
		}
		want := make([]string, len(got))
		for i := range got {
			want[i] = strings.Clone(got[i])
		}
		for i := range b {
			b[i] = 'z'
		}
		if !slices.Equal(got, want) {
			t.Errorf("W3: of %s was answered %q, and is now %q", short(s), want, got)
		}
	}
	for line := range rightLines() {
		over(line, func(s string) []string {
			c, _ := calls.Parse(s)
			return []string{c.Path, c.Other, c.Data}
		})
	}
	for _, s := range edgeTexts() {
		over(s, func(s string) []string { return []string{calls.Quote(s)} })
		over(s, func(s string) []string {
			said, _ := calls.Unquote(s)
			return []string{said}
		})
		for _, kind := range allKinds() {
			over(s, func(s string) []string {
				line, _ := calls.Print(api.Call{Kind: kind, Path: s, Other: s, Data: s})
				return []string{line, calls.Tell(api.Call{Kind: kind}, api.Answer{Data: s, Names: []string{s}})}
			})
		}
	}
}

// W5, P25.7: the same is answered each time, whatever was asked between, and calls at the same time don't meet.
func TestCallsAtOnce(t *testing.T) {
	var all sync.WaitGroup
	for k := range 8 {
		all.Go(func() {
			for range 20 {
				for line := range rightLines() {
					asPlainRow(t, line)
				}
				for i := range edgeTexts() {
					s := edgeTexts()[(i*3+k)%len(edgeTexts())]
					quotes(t, s, plainQuote(s))
					asPlainWord(t, s)
				}
			}
		})
	}
	all.Wait()
}

// soon holds that something ends within a time that is much more than it wants.
func soon(t *testing.T, what string, do func()) {
	t.Helper()
	begin := time.Now()
	do()
	if took := time.Since(begin); took > 20*time.Second {
		t.Errorf("P25.7: %s has taken %v", what, took)
	}
}

// P25.7: long texts, lines, numbers and lists.
func TestLong(t *testing.T) {
	n := 1 << 22
	soon(t, "long words", func() {
		for _, s := range []string{"a", " ", `"`, `\`, "\n", "\xff"} {
			s = rep(s, n)
			quotes(t, s, plainQuote(s))
		}
		for _, w := range []string{`"` + rep(" ", n), rep(`"`, n), rep(`\`, n), `"` + rep(`\`, n+1) + `"`, rep("a", n) + "!", `"` + rep(`\x4`, n) + `"`} {
			noWord(t, w)
		}
	})
	soon(t, "long lines", func() {
		for _, line := range []string{rep(" ", n), rep("a ", n), rep(`"" `, n), `room` + rep(" a", n), rep(`"`, n), `create "` + rep(" ", n), `create "` + rep(`\`, n), "truncate a " + rep("9", n), "truncate a -" + rep("0", n), rep("create ", n), "create" + rep("e", n)} {
			noRow(t, line)
		}
		long := rep("x y", n)
		isRow(t, rep(" ", n)+"write"+rep(" ", n)+`"`+long+`"`+rep(" ", n)+"1"+rep(" ", n)+`"`+long+`"`+rep(" ", n), api.Call{Kind: api.CallWrite, Path: long, Offset: 1, Data: long})
	})
	soon(t, "many names", func() {
		names := make([]string, 1<<18)
		for i := range names {
			names[i] = []string{"a", "a b", "", rep("x", 27)}[i%4]
		}
		c := api.Call{Kind: api.CallReaddir}
		want := "262144" + rep("\na\n\"a b\"\n\"\"\n"+rep("x", 27), 1<<16)
		tells(t, c, api.Answer{Names: names}, want)
	})
}

// P25.7: a line of more words than any row has isn't cut to its end: what that takes doesn't grow with their number.
func TestManyWords(t *testing.T) {
	line := "room" + rep(" a", 1<<20)
	var ahead, behind runtime.MemStats
	runtime.ReadMemStats(&ahead)
	noRow(t, line)
	runtime.ReadMemStats(&behind)
	if took := behind.TotalAlloc - ahead.TotalAlloc; took > 1<<20 {
		t.Errorf("P25.7: Parse of %s takes %d bytes", short(line), took)
	}
}
