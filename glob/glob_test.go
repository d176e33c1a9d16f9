package glob_test

import (
	"fmt"
	"slices"
	"strings"
	"testing"

	"bole/adisk"
	"bole/api"
	"bole/fds"
	"bole/glob"
	"bole/ram"
	"bole/vfs"
)

func rep(s string, n int) string { return strings.Repeat(s, n) }

// short is a text as a message tells it.
func short(s string) string { return fmt.Sprintf("%.60q (%d bytes)", s, len(s)) }

// allBytes are the texts of one byte.
func allBytes() []string {
	l := make([]string, 256)
	for c := range l {
		l[c] = string([]byte{byte(c)})
	}
	return l
}

// every is all texts of at most so many of these bytes.
func every(bytes string, most int) []string {
	l := []string{""}
	for from := 0; most > 0; most-- {
		to := len(l)
		for _, s := range l[from:to] {
			for i := range len(bytes) {
				l = append(l, s+bytes[i:i+1])
			}
		}
		from = to
	}
	return l
}

// isPattern holds that a text is a pattern of a name.
func isPattern(t *testing.T, pattern string) {
	t.Helper()
	if e := glob.Check(pattern); e != api.OK {
		t.Errorf("P23.1: Check(%s) = %d, want 0", short(pattern), e)
	}
	if _, e := glob.Match(pattern, ""); e != api.OK {
		t.Errorf("P23.2: Match(%s, \"\"): %d, want 0", short(pattern), e)
	}
}

// means holds that a text is a pattern, and whether it means another one.
func means(t *testing.T, pattern, text string, want bool) {
	t.Helper()
	if e := glob.Check(pattern); e != api.OK {
		t.Errorf("P23.1: Check(%s) = %d, want 0", short(pattern), e)
	}
	if is, e := glob.Match(pattern, text); is != want || e != api.OK {
		t.Errorf("P23.2: Match(%s, %s) = %v, %d, want %v, 0", short(pattern), short(text), is, e, want)
	}
}

// noPattern holds that a text is no pattern of a name, whatever it is asked of.
func noPattern(t *testing.T, pattern string) {
	t.Helper()
	if e := glob.Check(pattern); e != api.ErrPattern {
		t.Errorf("P23.1: Check(%s) = %d, want %d", short(pattern), e, api.ErrPattern)
	}
	for _, text := range []string{"", "a", "!", "]", "\\", pattern, strings.TrimSuffix(pattern, "\\")} {
		if is, e := glob.Match(pattern, text); is || e != api.ErrPattern {
			t.Errorf("P23.2: Match(%s, %s) = %v, %d, want false, %d", short(pattern), short(text), is, e, api.ErrPattern)
		}
	}
}

// meansBytes holds which texts of one byte a pattern means, of all 256, and that it means none of another length.
func meansBytes(t *testing.T, pattern string, want func(c byte) bool) {
	t.Helper()
	for c, text := range allBytes() {
		means(t, pattern, text, want(byte(c)))
	}
	for _, text := range []string{"", "aa", "ab", "--", "!]", pattern + "x"} {
		if len(text) != 1 {
			means(t, pattern, text, false)
		}
	}
}

// oneOf is whether a byte is one of those of a text.
func oneOf(bytes string) func(c byte) bool {
	return func(c byte) bool { return strings.IndexByte(bytes, c) >= 0 }
}

// noneOf is whether it is none of them.
func noneOf(bytes string) func(c byte) bool {
	return func(c byte) bool { return strings.IndexByte(bytes, c) < 0 }
}

// from is whether a byte is one from the one to the other.
func from(low, high byte) func(c byte) bool {
	return func(c byte) bool { return low <= c && c <= high }
}

// disk is a file system on a disk.
type disk struct {
	t *testing.T
	d *adisk.Disk
	*vfs.FS
}

func fresh(t *testing.T, blocks int) *disk {
	t.Helper()
	d, e := adisk.New(blocks)
	if e != api.OK || vfs.Mkfs(d) != api.OK {
		t.Fatalf("P20.1: no file system of %d blocks", blocks)
	}
	f, e := vfs.Mount(d)
	if e != api.OK {
		t.Fatalf("P20.2: Mount: %d", e)
	}
	return &disk{t, d, f}
}

func (b *disk) steps() int {
	w, f := b.d.Steps()
	return w + f
}

// lays makes things: "/d/" a directory, "/l>text" a symbolic link, "/n&/f" one more name of a file, every other path a file.
func lays(t *testing.T, f api.Caller, things ...string) {
	t.Helper()
	for _, s := range things {
		c := api.Call{Kind: api.CallCreate, Path: s}
		if path, text, ok := strings.Cut(s, ">"); ok {
			c = api.Call{Kind: api.CallSymlink, Path: path, Other: text}
		} else if path, old, ok := strings.Cut(s, "&"); ok {
			c = api.Call{Kind: api.CallLink, Path: old, Other: path}
		} else if dir, ok := strings.CutSuffix(s, "/"); ok {
			c = api.Call{Kind: api.CallMkdir, Path: dir}
		}
		if a := f.Do(c); a.Err != api.OK {
			t.Fatalf("%q can't be laid: %d", s, a.Err)
		}
	}
}

// laid is a file system of each kind of caller with the same things in it.
func laid(t *testing.T, things ...string) map[string]api.Caller {
	t.Helper()
	const blocks = 1024
	memory, e := ram.New(blocks)
	if e != api.OK {
		t.Fatalf("P18.1: New(%d): %d", blocks, e)
	}
	all := map[string]api.Caller{"vfs": fresh(t, blocks).FS, "ram": memory, "fds": fds.New(fresh(t, blocks).FS)}
	for _, f := range all {
		lays(t, f, things...)
	}
	return all
}

// tells holds what Paths answers of a pattern, of each file system.
func tells(t *testing.T, all map[string]api.Caller, pattern string, want ...string) {
	t.Helper()
	for kind, f := range all {
		l, e := glob.Paths(f, pattern)
		if e != api.OK || !slices.Equal(l, want) {
			t.Errorf("P23.3: %s: Paths(%s) = %.300q, %d, want %.300q, 0", kind, short(pattern), l, e, want)
		}
	}
}

// refuses holds that Paths answers an error of a pattern, and nothing beside it.
func refuses(t *testing.T, all map[string]api.Caller, pattern string, want api.Errno) {
	t.Helper()
	for kind, f := range all {
		if l, e := glob.Paths(f, pattern); e != want || len(l) != 0 {
			t.Errorf("P23.3: %s: Paths(%s) = %.300q, %d, want none, %d", kind, short(pattern), l, e, want)
		}
	}
}
