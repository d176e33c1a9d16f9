package glob_test

import (
	"slices"
	"strings"
	"sync"
	"testing"
	"unsafe"

	"bole/api"
	"bole/glob"
)

// shares tells whether two texts have memory in common.
func shares(a, b string) bool {
	if a == "" || b == "" {
		return false
	}
	x, y := uintptr(unsafe.Pointer(unsafe.StringData(a))), uintptr(unsafe.Pointer(unsafe.StringData(b)))
	return x < y+uintptr(len(b)) && y < x+uintptr(len(a))
}

// P23.6, W3: a list that is written over by the caller, its spare room too, changes no other answer and nothing of the file system.
func TestListsWrittenOver(t *testing.T) {
	for kind, f := range laid(t, exampleTree()...) {
		for _, p := range append(askedPatterns(), "/") {
			want, _ := glob.Paths(f, p)
			want = slices.Clone(want)
			first, _ := glob.Paths(f, p)
			second, _ := glob.Paths(f, p)
			first = first[:cap(first)]
			for i := range first {
				first[i] = "written over"
			}
			third, e := glob.Paths(f, p)
			if e != api.OK || !slices.Equal(second, want) || !slices.Equal(third, want) {
				t.Errorf("P23.6: %s: of Paths(%s) a list was written over: %q, %q, want %q", kind, short(p), second, third, want)
			}
		}
	}
}

// keeper hands on what it is asked, and holds the names that were answered.
type keeper struct {
	f     api.Caller
	names [][]string
}

func (k *keeper) Do(c api.Call) api.Answer {
	a := k.f.Do(c)
	k.names = append(k.names, a.Names)
	return a
}

// P23.6, W3: what is told has no memory of the pattern's, nor of the names that the file system answers; these lists stay as they are.
func TestPathsAreNew(t *testing.T) {
	for kind, f := range laid(t, exampleTree()...) {
		for _, p := range append(askedPatterns(), "/", "///") {
			p = strings.Clone(p)
			k := &keeper{f: f}
			l, _ := glob.Paths(k, p)
			for _, path := range l {
				if shares(path, p) {
					t.Errorf("P23.6: %s: Paths(%s): %q lies in the pattern", kind, short(p), path)
				}
				for _, name := range slices.Concat(k.names...) {
					if shares(path, name) {
						t.Errorf("P23.6: %s: Paths(%s): %q lies in a name", kind, short(p), path)
					}
				}
			}
			for _, names := range k.names {
				if !slices.IsSorted(names) || slices.Contains(names, "") {
					t.Errorf("W3: %s: Paths(%s) has changed the names %q", kind, short(p), names)
				}
			}
		}
	}
}

// W3: texts that are handed in stay as they are, and what becomes of their memory behind the call changes nothing that was answered.
func TestTextsStay(t *testing.T) {
	all := laid(t, exampleTree()...)
	for _, p := range append(askedPatterns(), "/", `/[a-c]`, `/\a*`) {
		b := []byte(p)
		loose := unsafe.String(unsafe.SliceData(b), len(b))
		l, e := glob.Paths(all["ram"], loose)
		if string(b) != p {
			t.Errorf("W3: Paths(%s) has changed it: %q", short(p), b)
		}
		for i := range b {
			b[i] = 'z'
		}
		want, err := glob.Paths(all["ram"], p)
		if !slices.Equal(l, want) || e != err {
			t.Errorf("W3: Paths(%s) = %q, %d, want %q, %d", short(p), l, e, want, err)
		}
	}
	for _, p := range rightPatterns() {
		b, text := []byte(p), []byte("abc")
		glob.Match(unsafe.String(unsafe.SliceData(b), len(b)), unsafe.String(unsafe.SliceData(text), len(text)))
		if string(b) != p || string(text) != "abc" {
			t.Errorf("W3: Match(%q, \"abc\") has changed them: %q, %q", p, b, text)
		}
	}
}

// P23.6, W5: nothing is kept between the calls, and calls at the same time don't meet.
func TestCallsAtOnce(t *testing.T) {
	patterns := append(rightPatterns(), "[", "[]", `\`, "a/b", rep("*a", 400), rep("?", 1024), rep("x", 1025))
	texts := []string{"", "a", "abc", "a/b", "]", rep("a", 1024), rep("ab", 300)}
	var all sync.WaitGroup
	for k := range 8 {
		all.Go(func() {
			for i := range patterns {
				asPlain(t, patterns[(i*3+k)%len(patterns)], texts, cutsSoon)
			}
		})
	}
	all.Wait()
}
