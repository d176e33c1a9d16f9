package glob_test

import (
	"bytes"
	"slices"
	"strings"
	"testing"

	"bole/adisk"
	"bole/api"
	"bole/fds"
	"bole/glob"
	"bole/ram"
	"bole/vfs"
)

// noter is a caller that notes what it is asked. What it answers may be another one's error: refuse, if it isn't nil, is asked with how many questions there were ahead.
type noter struct {
	f      api.Caller
	asked  []api.Call
	refuse func(ahead int) api.Errno
}

func (n *noter) Do(c api.Call) api.Answer {
	ahead := len(n.asked)
	n.asked = append(n.asked, c)
	if n.refuse != nil {
		if e := n.refuse(ahead); e != api.OK {
			return api.Answer{Err: e}
		}
	}
	return n.f.Do(c)
}

// askedPatterns are patterns with a part, of each kind.
func askedPatterns() []string {
	return []string{"/a", "/x", "/.", "/..", "/*", "/**", "/**/**", "/***", "/a/b", "/a/*", "/*/*", "/**/b", "/a/c/b", "/l/*", "/l/**", "/b/**", "/x/y", "/../a", "/" + rep("x", 28), "/" + rep("x", 1023), rep("/x", 32), rep("/**", 32), "/**/c/**", "/[!a]", `/\a`, "/\xff", "//a//", "/a/**", "/*/c/*"}
}

// P23.3: with a part the root is asked first and then its names, whatever the parts are; without one nothing is asked, nor of a text that is no pattern.
func TestRootIsAskedFirst(t *testing.T) {
	for kind, f := range laid(t, exampleTree()...) {
		for _, p := range askedPatterns() {
			n := &noter{f: f}
			if _, e := glob.Paths(n, p); e != api.OK {
				t.Errorf("P23.3: %s: Paths(%s): %d", kind, short(p), e)
			}
			if len(n.asked) == 0 || n.asked[0].Path != "/" {
				t.Errorf("P23.3: %s: Paths(%s) has asked %v", kind, short(p), n.asked)
			}
			names := slices.Index(n.asked, api.Call{Kind: api.CallReaddir, Path: "/"})
			other := slices.IndexFunc(n.asked, func(c api.Call) bool { return c.Path != "/" })
			if names < 0 || other >= 0 && other < names {
				t.Errorf("P23.3: %s: Paths(%s) has asked %v", kind, short(p), n.asked)
			}
		}
		for _, p := range []string{"/", "//", rep("/", 1024), "", "a", "/[", "/a/[", "/**/[", "/a\x00", rep("/x", 33), "/" + rep("x", 1024)} {
			n := &noter{f: f}
			glob.Paths(n, p)
			if len(n.asked) > 0 {
				t.Errorf("P23.3: %s: Paths(%s) has asked %v", kind, short(p), n.asked)
			}
		}
	}
}

// P23.4: just CallReaddir and CallLstat are asked, with a path alone, and names are asked of directories alone, so that no symbolic link is followed.
func TestWhatIsAsked(t *testing.T) {
	for kind, f := range laid(t, exampleTree()...) {
		for _, p := range askedPatterns() {
			n := &noter{f: f}
			glob.Paths(n, p)
			for _, c := range n.asked {
				plain := c == api.Call{Kind: c.Kind, Path: c.Path}
				if !plain || c.Kind != api.CallReaddir && c.Kind != api.CallLstat {
					t.Errorf("P23.4: %s: Paths(%s) has asked %v", kind, short(p), c)
				}
				if c.Kind == api.CallReaddir && !slices.Contains([]string{"/", "/a", "/a/c"}, c.Path) {
					t.Errorf("P23.3: %s: Paths(%s) has asked the names of %s", kind, short(p), c.Path)
				}
			}
		}
	}
}

// P23.3: of a directory that no beginning of the pattern means nothing is asked, so that its error is none of Paths'.
func TestWhatIsNotComeTo(t *testing.T) {
	for kind, f := range laid(t, "/a/", "/a/b/", "/a/b/c", "/a/d/", "/z/", "/z/b/", "/f") {
		for pattern, beginnings := range map[string]string{
			"/a":       "/",
			"/x/**":    "/",
			"/a/**":    "/ /a /a/b /a/b/c /a/d",
			"/a/b/*":   "/ /a /a/b",
			"/*/b/**":  "/ /a /a/b /a/b/c /f /z /z/b",
			"/[!z]/b":  "/ /a /f",
			"/a/*/**":  "/ /a /a/b /a/b/c /a/d",
			"/a/d/**":  "/ /a /a/d",
			"/**/x/**": "/ /a /a/b /a/b/c /a/d /f /z /z/b",
		} {
			n := &noter{f: f}
			if _, e := glob.Paths(n, pattern); e != api.OK {
				t.Errorf("P23.3: %s: Paths(%q): %d", kind, pattern, e)
			}
			for _, c := range n.asked {
				if !slices.Contains(strings.Fields(beginnings), c.Path) {
					t.Errorf("P23.3: %s: Paths(%q) has asked %v", kind, pattern, c)
				}
			}
		}
	}
}

// P23.4: nothing is changed: not a step, not a byte, not what the calls tell.
func TestNothingChanges(t *testing.T) {
	b := fresh(t, 128)
	lays(t, b, exampleTree()...)
	image, steps := b.d.Image(), b.steps()
	memory, e := ram.New(128)
	if e != api.OK {
		t.Fatal(e)
	}
	lays(t, memory, exampleTree()...)
	twin := memory.Copy()
	for _, p := range append(askedPatterns(), "/", "", "/[", rep("/x", 33)) {
		glob.Paths(b, p)
		glob.Paths(memory, p)
	}
	if b.steps() != steps || !bytes.Equal(b.d.Image(), image) {
		t.Errorf("P23.4: the disk has changed by %d steps", b.steps()-steps)
	}
	for _, path := range []string{"/", "/a", "/a/b", "/a/c", "/a/c/b", "/b", "/l"} {
		for _, kind := range []int{api.CallLstat, api.CallReaddir, api.CallReadlink, api.CallRoom} {
			c := api.Call{Kind: kind, Path: path}
			was, is, onDisk := twin.Do(c), memory.Do(c), b.Do(c)
			for _, a := range []api.Answer{is, onDisk} {
				if a.Err != was.Err || a.Stat != was.Stat || a.Room != was.Room || a.Data != was.Data || !slices.Equal(a.Names, was.Names) {
					t.Errorf("P23.4: behind Paths %v answers %v, ahead %v", c, a, was)
				}
			}
		}
	}
}

// P23.3: while the power is out: ErrDown of every pattern that has a part; behind the next mount all is told as ahead.
func TestPowerOut(t *testing.T) {
	b := fresh(t, 128)
	lays(t, b, exampleTree()...)
	was := map[string][]string{}
	for _, p := range askedPatterns() {
		was[p], _ = glob.Paths(b, p)
	}
	table := fds.New(b.FS)
	b.d.Crash(nil)
	down := map[string]api.Caller{"vfs": b.FS, "fds": table}
	for _, p := range askedPatterns() {
		refuses(t, down, p, api.ErrDown)
	}
	for _, p := range []string{"/", "//", rep("/", 1024)} {
		tells(t, down, p, "/")
	}
	for _, p := range []string{"", "a", "/[", "/a/[", "/**/[!]", "/a\x00", rep("/x", 33), "/" + rep("x", 1024)} {
		refuses(t, down, p, api.ErrPattern)
	}
	d, e := adisk.Open(b.d.Image())
	if e != api.OK {
		t.Fatal(e)
	}
	again, e := vfs.Mount(d)
	if e != api.OK {
		t.Fatalf("P20.2: Mount: %d", e)
	}
	for p, want := range was {
		tells(t, map[string]api.Caller{"vfs": again}, p, want...)
	}
}

// P23.3: the power goes between two questions, at each place: ErrDown, and nothing told beside it; behind the last question it is not seen.
func TestPowerGoesBetweenQuestions(t *testing.T) {
	b := fresh(t, 128)
	lays(t, b, exampleTree()...)
	image := b.d.Image()
	for _, p := range askedPatterns() {
		whole := &noter{f: b.FS}
		want, e := glob.Paths(whole, p)
		if e != api.OK {
			t.Fatalf("P23.3: Paths(%s): %d", short(p), e)
		}
		for at := range len(whole.asked) + 1 {
			d, e := adisk.Open(image)
			if e != api.OK {
				t.Fatal(e)
			}
			f, e := vfs.Mount(d)
			if e != api.OK {
				t.Fatal(e)
			}
			n := &noter{f: fds.New(f), refuse: func(ahead int) api.Errno {
				if ahead == at {
					d.Crash(nil)
				}
				return api.OK
			}}
			got, e := glob.Paths(n, p)
			switch {
			case at < len(whole.asked) && (e != api.ErrDown || len(got) > 0):
				t.Errorf("P23.3: the power goes ahead of question %d: Paths(%s) = %q, %d, want none, %d", at, short(p), got, e, api.ErrDown)
			case at == len(whole.asked) && (e != api.OK || !slices.Equal(got, want)):
				t.Errorf("P23.3: Paths(%s) = %q, %d, want %q", short(p), got, e, want)
			case at < len(whole.asked) && len(n.asked) != at+1:
				t.Errorf("P23.3: behind the error of question %d Paths(%s) has asked on: %v", at, short(p), n.asked)
			}
		}
	}
}

// P23.3: whichever error a question is answered with, that is the answer.
func TestErrorsAreHandedOn(t *testing.T) {
	for kind, f := range laid(t, exampleTree()...) {
		for _, p := range askedPatterns() {
			whole := &noter{f: f}
			glob.Paths(whole, p)
			for at := range len(whole.asked) {
				for _, want := range []api.Errno{api.ErrDown, api.ErrNone, api.ErrNotDir, api.ErrCell, api.ErrRecord, api.ErrPointer, api.ErrPattern, api.ErrTooLong, api.ErrInval, 999} {
					n := &noter{f: f, refuse: func(ahead int) api.Errno {
						if ahead == at {
							return want
						}
						return api.OK
					}}
					if l, e := glob.Paths(n, p); e != want || len(l) > 0 {
						t.Errorf("P23.3: %s: question %d of Paths(%s) is refused: %q, %d, want none, %d", kind, at, short(p), l, e, want)
					}
				}
			}
		}
	}
}
