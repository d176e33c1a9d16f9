package ram_test

import (
	"fmt"
	"hash/crc32"
	"math"
	"reflect"
	"slices"
	"strings"
	"testing"

	"bole/api"
	"bole/ram"
)

const size = api.BlockSize

func rep(s string, n int) string { return strings.Repeat(s, n) }

// face is the calls of a file system.
type face interface {
	Do(c api.Call) api.Answer
	Unlink(s string, hold bool) (int, api.Errno)
	Rename(old, other string, hold bool) (int, api.Errno)
	Open(s string, create, excl bool) (int, api.Errno)
	ReadAt(n, off, size int) (string, api.Errno)
	WriteAt(n, off int, s string) api.Errno
	CutAt(n, size int) api.Errno
	StatAt(n int) (api.Stat, api.Errno)
	Release(n int) api.Errno
}

// op is a call with its arguments.
type op struct {
	name     string
	c        api.Call // of Do alone
	a, b     string
	yes, too bool // hold; create and excl
	n        int
	off, len int
}

// out is all that a call answers.
type out struct {
	a    api.Answer
	n    int
	text string
	stat api.Stat
	e    api.Errno
}

func do(c api.Call) op            { return op{name: "Do", c: c} }
func create(s string) op          { return do(api.Call{Kind: api.CallCreate, Path: s}) }
func mkdir(s string) op           { return do(api.Call{Kind: api.CallMkdir, Path: s}) }
func symlink(text, s string) op   { return do(api.Call{Kind: api.CallSymlink, Path: s, Other: text}) }
func link(old, other string) op   { return do(api.Call{Kind: api.CallLink, Path: old, Other: other}) }
func unlink(s string) op          { return do(api.Call{Kind: api.CallUnlink, Path: s}) }
func rmdir(s string) op           { return do(api.Call{Kind: api.CallRmdir, Path: s}) }
func rename(old, other string) op { return do(api.Call{Kind: api.CallRename, Path: old, Other: other}) }
func read(s string, off, n int) op {
	return do(api.Call{Kind: api.CallRead, Path: s, Offset: off, Size: n})
}
func write(s string, off int, data string) op {
	return do(api.Call{Kind: api.CallWrite, Path: s, Offset: off, Data: data})
}
func truncate(s string, n int) op { return do(api.Call{Kind: api.CallTruncate, Path: s, Size: n}) }
func readlink(s string) op        { return do(api.Call{Kind: api.CallReadlink, Path: s}) }
func stat(s string) op            { return do(api.Call{Kind: api.CallStat, Path: s}) }
func lstat(s string) op           { return do(api.Call{Kind: api.CallLstat, Path: s}) }
func readdir(s string) op         { return do(api.Call{Kind: api.CallReaddir, Path: s}) }
func room() op                    { return do(api.Call{Kind: api.CallRoom}) }

func unlinkAs(s string, hold bool) op { return op{name: "Unlink", a: s, yes: hold} }
func renameAs(old, other string, hold bool) op {
	return op{name: "Rename", a: old, b: other, yes: hold}
}
func open(s string, create, excl bool) op { return op{name: "Open", a: s, yes: create, too: excl} }
func readAt(n, off, len int) op           { return op{name: "ReadAt", n: n, off: off, len: len} }
func writeAt(n, off int, s string) op     { return op{name: "WriteAt", n: n, off: off, a: s} }
func cutAt(n, len int) op                 { return op{name: "CutAt", n: n, len: len} }
func statAt(n int) op                     { return op{name: "StatAt", n: n} }
func release(n int) op                    { return op{name: "Release", n: n} }

func (p op) String() string {
	switch p.name {
	case "Do":
		return fmt.Sprintf("Do(kind %d, %.60q, other %.60q, offset %d, size %d, %d bytes)", p.c.Kind, p.c.Path, p.c.Other, p.c.Offset, p.c.Size, len(p.c.Data))
	case "Unlink", "Rename", "Open":
		return fmt.Sprintf("%s(%.60q, %.60q, %t, %t)", p.name, p.a, p.b, p.yes, p.too)
	}
	return fmt.Sprintf("%s(%d, %d, %d, %d bytes)", p.name, p.n, p.off, p.len, len(p.a))
}

// on makes the call. A list of no names is the same as none (W4).
func (p op) on(f face) out {
	var o out
	switch p.name {
	case "Do":
		o.a = f.Do(p.c)
		o.e = o.a.Err
		if len(o.a.Names) == 0 {
			o.a.Names = nil
		}
	case "Unlink":
		o.n, o.e = f.Unlink(p.a, p.yes)
	case "Rename":
		o.n, o.e = f.Rename(p.a, p.b, p.yes)
	case "Open":
		o.n, o.e = f.Open(p.a, p.yes, p.too)
	case "ReadAt":
		o.text, o.e = f.ReadAt(p.n, p.off, p.len)
	case "WriteAt":
		o.e = f.WriteAt(p.n, p.off, p.a)
	case "CutAt":
		o.e = f.CutAt(p.n, p.len)
	case "StatAt":
		o.stat, o.e = f.StatAt(p.n)
	case "Release":
		o.e = f.Release(p.n)
	default:
		panic(p.name)
	}
	return o
}

// refusal is what a call answers that is refused.
func (p op) refusal(e api.Errno) out {
	if p.name == "Do" {
		return out{a: api.Answer{Err: e}, e: e}
	}
	return out{e: e}
}

func same(a, b out) bool { return reflect.DeepEqual(a, b) }

func (o out) String() string {
	if len(o.a.Data) > 60 {
		o.a.Data = fmt.Sprintf("%d bytes, sum %x", len(o.a.Data), crc32.ChecksumIEEE([]byte(o.a.Data)))
	}
	if len(o.text) > 60 {
		o.text = fmt.Sprintf("%d bytes, sum %x", len(o.text), crc32.ChecksumIEEE([]byte(o.text)))
	}
	return fmt.Sprintf("%+v %d %q %+v E%d", o.a, o.n, o.text, o.stat, int(o.e))
}

// box is a file system in memory under test.
type box struct {
	t *testing.T
	*ram.FS
}

func fresh(t *testing.T, n int) *box {
	t.Helper()
	f, e := ram.New(n)
	if e != api.OK || f == nil {
		t.Fatalf("P18.1: New(%d): %d", n, e)
	}
	return &box{t, f}
}

func (b *box) copy() *box { return &box{b.t, b.Copy()} }

// gives makes a call that is to answer just this.
func (b *box) gives(p op, want out) {
	b.t.Helper()
	if o := p.on(b); !same(o, want) {
		b.t.Errorf("P18.2: %v: %v, want %v", p, o, want)
	}
}

// answers makes a call of Do that is to answer just this.
func (b *box) answers(p op, want api.Answer) {
	b.t.Helper()
	b.gives(p, out{a: want, e: want.Err})
}

func (b *box) makes(p op, n int) {
	b.t.Helper()
	b.answers(p, api.Answer{N: n})
}

// does makes calls that are not to be refused.
func (b *box) does(ops ...op) {
	b.t.Helper()
	for _, p := range ops {
		if o := p.on(b); o.e != api.OK {
			b.t.Fatalf("P18.2: %v: %v", p, o)
		}
	}
}

// refuses makes calls that are to be refused, with nothing changed: the tree, what is free, the next number.
func (b *box) refuses(e api.Errno, ops ...op) {
	b.t.Helper()
	for _, p := range ops {
		before, was := sight(b), b.Copy()
		if o := p.on(b); !same(o, p.refusal(e)) {
			b.t.Errorf("P18.2: %v: %v, want %d", p, o, e)
		}
		if after := sight(b); after != before {
			b.t.Errorf("P18.2, W2: %v is refused, and something has changed:\n%s\n%s", p, before, after)
		}
		if !reflect.DeepEqual(was, b.FS) {
			b.t.Errorf("P18.2, W2: %v is refused, and something is kept of it", p)
		}
	}
}

// is holds all that is to be known of what a path names.
func (b *box) is(s string, n, kind, links, size, blocks int) {
	b.t.Helper()
	b.answers(lstat(s), api.Answer{Stat: api.Stat{Inode: n, Kind: kind, Links: links, Size: size, Blocks: blocks}})
}

// free holds how many blocks and inodes are free.
func (b *box) free(blocks, inodes int) {
	b.t.Helper()
	if r := b.Do(room().c).Room; r.FreeBlocks != blocks || r.FreeInodes != inodes {
		b.t.Errorf("P18.2: free are %d blocks and %d inodes, want %d and %d", r.FreeBlocks, r.FreeInodes, blocks, inodes)
	}
}

// next holds which number a new inode would have; 0: there is none.
func (b *box) next(n int) {
	b.t.Helper()
	if m := b.Copy().Do(create("/the next one").c).N; m != n {
		b.t.Errorf("P18.2: the next number is %d, want %d", m, n)
	}
}

func (b *box) holds(s, data string) {
	b.t.Helper()
	n := b.Do(stat(s).c).Stat.Inode
	if got := all(b, n); got != data {
		b.t.Errorf("P18.2: %s has the bytes %.60q (%d), want %.60q (%d)", s, got, len(got), data, len(data))
	}
}

func (b *box) lists(s string, names ...string) {
	b.t.Helper()
	b.answers(readdir(s), api.Answer{Names: names})
}

// leave makes two files that take all blocks but so many.
func (b *box) leave(left int) {
	b.t.Helper()
	b.does(create("/fill"), create("/more"))
	for k, m := 0, 0; ; {
		take := b.Do(room().c).Room.FreeBlocks - left
		switch {
		case take == 0:
			return
		case take < 0:
			b.t.Fatalf("%d blocks too many are taken", -take)
		case k == 10 && take < 2, k == 138 && take < 3, k > 138 && (k-138)%128 == 0 && take < 2:
			b.does(write("/more", m*size, "x"))
			m++
		case take >= 40:
			// With all tables that they may want.
			b.does(write("/fill", k*size, rep("x", 32*size)))
			k += 32
		default:
			b.does(write("/fill", k*size, rep("x", size)))
			k++
		}
	}
}

// all is the bytes of a file, gone through by its number; of a great one its beginning and its end.
func all(f face, n int) string {
	st, _ := f.StatAt(n)
	var s strings.Builder
	for off := 0; off < st.Size; {
		part, e := f.ReadAt(n, off, api.MaxIO)
		if e != api.OK || part == "" {
			return fmt.Sprintf("at %d: %d", off, e)
		}
		s.WriteString(part)
		off += len(part)
		if off > 1<<20 && off < st.Size-1<<18 {
			off = st.Size - 1<<18
		}
	}
	return s.String()
}

// sight is all that a file system tells of itself: what is free, each inode with its bytes, each name.
func sight(f face) string {
	var s strings.Builder
	r := f.Do(room().c).Room
	fmt.Fprint(&s, r, "\n")
	for n := 1; n <= r.Inodes; n++ {
		if st, e := f.StatAt(n); e == api.OK {
			fmt.Fprintf(&s, "%v", st)
			if st.Kind == api.KindFile {
				fmt.Fprintf(&s, " %x", crc32.ChecksumIEEE([]byte(all(f, n))))
			}
			s.WriteString("\n")
		}
	}
	names(f, &s, "", 1)
	return s.String()
}

// names tells the names below a directory, each with its inode, and what links say. (A name that lies deep has no path that is too long: D7.)
func names(f face, s *strings.Builder, at string, n int) {
	top := at
	if at == "" {
		top = "/"
	}
	for _, name := range f.Do(readdir(top).c).Names {
		a := f.Do(lstat(at + "/" + name).c)
		fmt.Fprintf(s, "%s/%s %d %s\n", at, name, a.Stat.Inode, f.Do(readlink(at+"/"+name).c).Data)
		if a.Stat.Kind == api.KindDir {
			names(f, s, at+"/"+name, a.Stat.Inode)
		}
	}
}

// noKinds are Kinds that no call has, some of them right in their lower bytes.
func noKinds() []int {
	return []int{math.MinInt, -1 << 32, -15, -1, 0, 16, 17, 99, 1<<8 + 1, 1<<16 + 3, 1<<32 + 1, 1<<32 + 15, math.MaxInt}
}

// noInodes are numbers that no inode of a file system with so many has.
func noInodes(count int) []int {
	return []int{math.MinInt, math.MinInt + 1, -1 << 32, -1, 0, count, count + 1, 1 << 16, 1<<16 + 1, 1<<32 + 1, 1<<32 + 2, math.MaxInt}
}

// noPaths are texts that path.Parse doesn't take, with their errors.
var noPaths = map[string]api.Errno{
	"": api.ErrInval, "a": api.ErrInval, "a/b": api.ErrInval, "/\x00": api.ErrInval, "/a\x00": api.ErrInval, "/a/\x00/b": api.ErrInval,
	rep("x", 1025): api.ErrInval, rep("/x", 40) + "\x00": api.ErrInval,
	rep("/", 1025): api.ErrTooLong, "/" + rep("x", 28): api.ErrTooLong, "/a/" + rep("x", 28) + "/b": api.ErrTooLong, rep("/x", 33): api.ErrTooLong,
}

// noNames are more of them that path.Make doesn't take.
var noNames = map[string]api.Errno{
	"/.": api.ErrInval, "/..": api.ErrInval, "/a/.": api.ErrInval, "/a/..//": api.ErrInval, "/" + rep("x", 28) + "/.": api.ErrInval, rep("/x", 33) + "/..": api.ErrInval,
}

// noTexts are texts that path.Text doesn't take, with their errors.
var noTexts = map[string]api.Errno{
	"": api.ErrInval, "\x00": api.ErrInval, "a\x00": api.ErrInval, rep("x", 1025) + "\x00": api.ErrInval,
	rep("/", 1025): api.ErrTooLong, rep("x", 28): api.ErrTooLong, rep("x/", 33): api.ErrTooLong, "a/" + rep("x", 28): api.ErrTooLong, rep("../", 33): api.ErrTooLong,
}

func sorted(l ...string) []string {
	slices.Sort(l)
	return l
}

// unchanged makes calls that are not refused and change nothing.
func (b *box) unchanged(ops ...op) {
	b.t.Helper()
	for _, p := range ops {
		before, was := sight(b), b.Copy()
		if o := p.on(b); o.e != api.OK || o.n != 0 {
			b.t.Errorf("P18.2: %v: %v", p, o)
		}
		if sight(b) != before || !reflect.DeepEqual(was, b.FS) {
			b.t.Errorf("P18.2, D9: %v has changed something", p)
		}
	}
}
