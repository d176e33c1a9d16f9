package slots_test

import (
	"bytes"
	"fmt"
	"math"
	"slices"
	"strings"
	"testing"

	"bole/api"
	"bole/slots"
)

const (
	least   = math.MinInt
	most    = math.MaxInt
	topNode = 4294967295
)

func rep(s string, n int) string { return strings.Repeat(s, n) }

func cell(place int, name string, inode int) api.Entry {
	return api.Entry{Place: place, Name: name, Inode: inode}
}

func zeros() []byte { return make([]byte, 512) }

// raw is the 32 bytes that begin with these.
func raw(head ...byte) []byte {
	c := make([]byte, 32)
	copy(c, head)
	return c
}

// named is the 32 bytes of inode 1 with this length byte and this text behind it, zeros behind that.
func named(length int, text string) []byte {
	return raw(append([]byte{1, 0, 0, 0, byte(length)}, text...)...)
}

// with is b, copied, with cell k of these bytes.
func with(b []byte, k int, c []byte) []byte {
	now := bytes.Clone(b)
	copy(now[32*k:32*k+32], c)
	return now
}

// plainBytes says the chapter's words of a cell that is taken: its 32 bytes.
func plainBytes(e api.Entry) []byte {
	c := make([]byte, 0, 32)
	left := e.Inode
	for range 4 {
		c = append(c, byte(left%256))
		left /= 256
	}
	c = append(c, byte(len(e.Name)))
	c = append(c, e.Name...)
	for len(c) < 32 {
		c = append(c, 0)
	}
	return c
}

// blockOf is a right block of these cells.
func blockOf(l ...api.Entry) []byte {
	b := zeros()
	for _, e := range l {
		b = with(b, e.Place, plainBytes(e))
	}
	return b
}

func plainName(s string) bool {
	for i := range len(s) {
		if s[i] == '/' || s[i] == 0 {
			return false
		}
	}
	return len(s) >= 1 && len(s) <= 27 && s != "." && s != ".."
}

// plainCell says the chapter's words of the 32 bytes of a cell: the inode, 0 of a free one; the name; whether they are as they must be.
func plainCell(c []byte) (int, string, bool) {
	inode := int(c[0]) + 256*int(c[1]) + 65536*int(c[2]) + 16777216*int(c[3])
	if inode == 0 {
		for _, x := range c {
			if x != 0 {
				return 0, "", false
			}
		}
		return 0, "", true
	}
	n := int(c[4])
	if n < 1 || n > 27 || !plainName(string(c[5:5+n])) {
		return 0, "", false
	}
	for _, x := range c[5+n:] {
		if x != 0 {
			return 0, "", false
		}
	}
	return inode, string(c[5 : 5+n]), true
}

// plain is what Read and Lowest answer of b.
func plain(b []byte) (taken []api.Entry, low int, err api.Errno) {
	if len(b) != 512 {
		return nil, 0, api.ErrSize
	}
	low = -1
	for k := 15; k >= 0; k-- {
		inode, name, right := plainCell(b[32*k : 32*k+32])
		switch {
		case !right:
			return nil, 0, api.ErrCell
		case inode == 0:
			low = k
		default:
			taken = slices.Insert(taken, 0, cell(k, name, inode))
		}
	}
	return taken, low, api.OK
}

// plainPut is the bytes that Put leaves, and its error.
func plainPut(b []byte, e api.Entry) ([]byte, api.Errno) {
	switch {
	case len(b) != 512:
		return b, api.ErrSize
	case e.Place < 0 || e.Place > 15 || e.Inode < 1 || e.Inode > topNode || !plainName(e.Name):
		return b, api.ErrCell
	}
	return with(b, e.Place, plainBytes(e)), api.OK
}

func plainClear(b []byte, place int) ([]byte, api.Errno) {
	switch {
	case len(b) != 512:
		return b, api.ErrSize
	case place < 0 || place > 15:
		return b, api.ErrCell
	}
	return with(b, place, raw()), api.OK
}

// short is a block as a message tells it: the cells that have a byte that isn't zero.
func short(b []byte) string {
	if len(b) != 512 {
		return fmt.Sprintf("%d bytes", len(b))
	}
	s := "block"
	for k := range 16 {
		if c := b[32*k : 32*k+32]; !bytes.Equal(c, raw()) {
			s += fmt.Sprintf(" %d:%x", k, bytes.TrimRight(c, "\x00"))
		}
	}
	return s
}

func shortEntry(e api.Entry) string { return fmt.Sprintf("{%d %q %d}", e.Place, e.Name, e.Inode) }

func shortList(l []api.Entry) string {
	s := "["
	for _, e := range l {
		s += shortEntry(e)
	}
	return s + "]"
}

// guarded is b with other bytes ahead of it and in the room behind it, and a question whether those stand as they were.
func guarded(b []byte) ([]byte, func() bool) {
	all := slices.Concat(bytes.Repeat([]byte{0xA5}, 40), b, bytes.Repeat([]byte{0xC3}, 72))
	before := bytes.Clone(all)
	inside := all[40 : 40+len(b)]
	return inside, func() bool {
		return bytes.Equal(all[:40], before[:40]) && bytes.Equal(all[40+len(b):], before[40+len(b):])
	}
}

// wantBoth asks Read and Lowest, and that they change nothing.
func wantBoth(t *testing.T, b []byte, taken []api.Entry, low int, err api.Errno) {
	t.Helper()
	in, stands := guarded(b)
	if l, e := slots.Read(in); !slices.Equal(l, taken) || e != err {
		t.Errorf("P14.1: Read of %s: %s, %d, want %s, %d", short(b), shortList(l), e, shortList(taken), err)
	}
	if n, e := slots.Lowest(in); n != low || e != err {
		t.Errorf("P14.4: Lowest of %s: %d, %d, want %d, %d", short(b), n, e, low, err)
	}
	if !bytes.Equal(in, b) || !stands() {
		t.Errorf("P14.5: Read or Lowest has changed %s to %s, or what lies about it", short(b), short(in))
	}
}

func wantPlain(t *testing.T, b []byte) {
	t.Helper()
	taken, low, err := plain(b)
	wantBoth(t, b, taken, low, err)
}

// wantWrong asks that both calls refuse a block, with no other answer.
func wantWrong(t *testing.T, b []byte, err api.Errno) {
	t.Helper()
	wantBoth(t, b, nil, 0, err)
}

// wantPut asks Put, what it leaves, and that nothing about the block has changed; it answers what it leaves.
func wantPut(t *testing.T, b []byte, e api.Entry, want []byte, err api.Errno) []byte {
	t.Helper()
	in, stands := guarded(b)
	if f := slots.Put(in, e); f != err {
		t.Errorf("P14.2: Put of %s into %s: %d, want %d", shortEntry(e), short(b), f, err)
	}
	if !bytes.Equal(in, want) || !stands() {
		t.Errorf("P14.2, P14.5: Put of %s into %s leaves %s, want %s, or has changed what lies about it", shortEntry(e), short(b), short(in), short(want))
	}
	return bytes.Clone(in)
}

func wantClear(t *testing.T, b []byte, place int, want []byte, err api.Errno) []byte {
	t.Helper()
	in, stands := guarded(b)
	if f := slots.Clear(in, place); f != err {
		t.Errorf("P14.3: Clear of %d in %s: %d, want %d", place, short(b), f, err)
	}
	if !bytes.Equal(in, want) || !stands() {
		t.Errorf("P14.3, P14.5: Clear of %d in %s leaves %s, want %s, or has changed what lies about it", place, short(b), short(in), short(want))
	}
	return bytes.Clone(in)
}

func wantPutPlain(t *testing.T, b []byte, e api.Entry) []byte {
	t.Helper()
	want, err := plainPut(b, e)
	return wantPut(t, b, e, want, err)
}

func wantClearPlain(t *testing.T, b []byte, place int) []byte {
	t.Helper()
	want, err := plainClear(b, place)
	return wantClear(t, b, place, want, err)
}

// names are such as may be, of each length.
func names() []string {
	l := []string{"...", "....", "..a", ".a", "a.", "a..", "-", " ", "\xff", "\x80", "\x01", "\x7f", "ä", "a\\b", "\n", rep(".", 27), rep("\xff", 27), rep("\x80", 26)}
	for n := 1; n <= 27; n++ {
		l = append(l, rep("x", n), rep("abcdefghi", 3)[:n])
	}
	return l
}

// noNames are none, the dots, and names with a wrong byte at each place, or too long.
func noNames() []string {
	l := []string{"", ".", "..", "/", "\x00", "a/b", "a\x00", "/a", "a/", "\x00a", "../", "./", rep("x", 28), rep("x", 29), rep("x", 31), rep("x", 32), rep("x", 255), rep("x", 256), rep("x", 257), rep("x", 283), rep("x", 1<<16+1)}
	for n := 1; n <= 27; n++ {
		for at := range n {
			for _, c := range []byte{'/', 0} {
				s := []byte(rep("x", n))
				s[at] = c
				l = append(l, string(s))
			}
		}
	}
	return l
}

// noPlaces are the edges, the ends of an int, and numbers that are right ones in their lower bytes.
func noPlaces() []int {
	return []int{-1, 16, -2, -15, -16, -17, 17, 31, 32, 255, 256, 256 + 3, 1 << 31, 1 << 32, 1<<32 + 3, 1 << 58, 1 << 59, 1<<59 + 1, 1 << 60, -1 << 59, -1 << 32, most, most - 1, least, least + 1, least + 3}
}

func inodes() []int {
	return []int{1, 2, 255, 256, 257, 258, 65535, 65536, 65537, 16777215, 16777216, 1 << 31, 1<<31 - 1, 0x01020304, topNode - 1, topNode}
}

func noInodes() []int {
	return []int{0, -1, -2, topNode + 1, topNode + 2, 1 << 33, 1<<40 + 7, -1 << 32, -1<<32 + 1, -topNode, most, most - 1, least, least + 1}
}

// wrongCells are the 32 bytes of cells that can't be, each kind of wrong with what it is.
func wrongCells() map[string][]byte {
	l := map[string][]byte{
		"an inode and no name":             raw(1),
		"the greatest inode and no name":   raw(255, 255, 255, 255),
		"an inode in its last byte alone":  raw(0, 0, 0, 1),
		"a text and no length":             named(0, "a"),
		"a length and no text":             named(1, ""),
		"one byte less than the length":    named(2, "a"),
		"one byte more than the length":    named(1, "ab"),
		"a byte behind the name":           named(1, "a\x00b"),
		"a byte in the last place":         raw(slices.Concat([]byte{1, 0, 0, 0, 26}, []byte(rep("a", 26)), []byte{1})...),
		"a length of 28":                   named(28, rep("a", 27)),
		"a length of 255":                  named(255, rep("a", 27)),
		"a length of 32":                   named(32, rep("a", 27)),
		"a length of 27 of 26 bytes":       named(27, rep("a", 26)),
		"a length of 26 of 27 bytes":       named(26, rep("a", 27)),
		"a dot":                            named(1, "."),
		"two dots":                         named(2, ".."),
		"a slash":                          named(1, "/"),
		"a slash within":                   named(3, "a/b"),
		"a slash at the end of 27":         named(27, rep("a", 26)+"/"),
		"a zero byte ahead":                named(2, "\x00a"),
		"a zero byte within":               named(3, "a\x00b"),
		"a zero byte at the end":           named(2, "a\x00"),
		"no inode and a name":              raw(0, 0, 0, 0, 1, 'a'),
		"no inode and a length":            raw(0, 0, 0, 0, 1),
		"no inode and a byte of the name":  raw(0, 0, 0, 0, 0, 'a'),
		"no inode and its last byte":       append(raw()[:31], 1),
		"all ones":                         bytes.Repeat([]byte{255}, 32),
		"a dot with a length of two":       named(2, ".\x00"),
		"three dots, two of them in there": named(2, "..."),
	}
	return l
}

// samples are right blocks: with no cell taken, one, some, all sixteen, of one name and of many.
func samples() [][]byte {
	l := [][]byte{zeros(), blockOf(cell(0, "a", 1)), blockOf(cell(15, "z", topNode)), blockOf(cell(7, rep("x", 27), 256)), blockOf(cell(3, "same", 9), cell(12, "same", 9)), blockOf(cell(0, "...", 1), cell(15, "\xff\x80", 2))}
	var full, odd, even []api.Entry
	for k := range 16 {
		e := cell(k, rep(string(rune('a'+k)), 1+k*26/15), 1+k*k*k*1234567)
		full = append(full, e)
		if k%2 == 0 {
			even = append(even, e)
		} else {
			odd = append(odd, e)
		}
	}
	return append(l, blockOf(full...), blockOf(even...), blockOf(odd...), blockOf(full[1:]...), blockOf(full[:15]...))
}

// noBlocks are too few bytes, and too many; of zeros, of a right block's, of others.
func noBlocks() [][]byte {
	l := [][]byte{nil, {}}
	full := slices.Concat(samples()[6], samples()[6], samples()[6])
	for _, n := range []int{1, 31, 32, 33, 480, 511, 513, 544, 1023, 1024, 1536} {
		l = append(l, make([]byte, n), full[:n:n], full[:n], bytes.Repeat([]byte{255}, n))
	}
	return l
}

// broken is a block in which no cell is as it must be.
func broken() []byte { return bytes.Repeat([]byte{0x5A}, 512) }
