package fds_test

import (
	"fmt"
	"hash/crc32"
	"math"
	"reflect"
	"slices"
	"strings"
	"testing"

	"bole/adisk"
	"bole/api"
	"bole/check"
	"bole/fds"
	"bole/vfs"
)

const size = api.BlockSize

// The flags by short names.
const (
	r      = api.ReadFlag
	w      = api.WriteFlag
	rw     = r | w
	create = api.CreateFlag
	excl   = api.ExclFlag
	trunc  = api.TruncFlag
	behind = api.AppendFlag
)

func rep(s string, n int) string { return strings.Repeat(s, n) }

func zeros(n int) string { return rep("\x00", n) }

// pattern is so many bytes of which no two blocks are the same.
func pattern(n int) string {
	var s strings.Builder
	for i := 0; s.Len() < n; i++ {
		fmt.Fprintf(&s, "%d,", i)
	}
	return s.String()[:n]
}

// face is the calls of a table.
type face interface {
	Open(s string, flags int) (int, api.Errno)
	Close(fd int) api.Errno
	Dup(fd int) (int, api.Errno)
	Read(fd, n int) (string, api.Errno)
	Write(fd int, s string) (int, api.Errno)
	Seek(fd, off, whence int) (int, api.Errno)
	Cut(fd, size int) api.Errno
	Stat(fd int) (api.Stat, api.Errno)
	Do(c api.Call) api.Answer
	Numbers() []int
}

// op is a call with its arguments.
type op struct {
	name string
	c    api.Call // of Do alone
	s    string
	fd   int
	n, k int // how many bytes, flags, size; or an offset and its whence
}

// out is all that a call answers.
type out struct {
	a    api.Answer
	n    int
	text string
	stat api.Stat
	e    api.Errno
}

func opens(s string, flags int) op { return op{name: "Open", s: s, n: flags} }
func closes(fd int) op             { return op{name: "Close", fd: fd} }
func dups(fd int) op               { return op{name: "Dup", fd: fd} }
func reads(fd, n int) op           { return op{name: "Read", fd: fd, n: n} }
func writes(fd int, s string) op   { return op{name: "Write", fd: fd, s: s} }
func seeks(fd, off, whence int) op { return op{name: "Seek", fd: fd, n: off, k: whence} }
func cuts(fd, size int) op         { return op{name: "Cut", fd: fd, n: size} }
func stats(fd int) op              { return op{name: "Stat", fd: fd} }
func do(c api.Call) op             { return op{name: "Do", c: c} }
func creates(s string) op          { return do(api.Call{Kind: api.CallCreate, Path: s}) }
func mkdir(s string) op            { return do(api.Call{Kind: api.CallMkdir, Path: s}) }
func symlink(text, s string) op    { return do(api.Call{Kind: api.CallSymlink, Path: s, Other: text}) }
func link(old, other string) op    { return do(api.Call{Kind: api.CallLink, Path: old, Other: other}) }
func unlink(s string) op           { return do(api.Call{Kind: api.CallUnlink, Path: s}) }
func rmdir(s string) op            { return do(api.Call{Kind: api.CallRmdir, Path: s}) }
func rename(old, other string) op  { return do(api.Call{Kind: api.CallRename, Path: old, Other: other}) }
func readlink(s string) op         { return do(api.Call{Kind: api.CallReadlink, Path: s}) }
func lstat(s string) op            { return do(api.Call{Kind: api.CallLstat, Path: s}) }
func readdir(s string) op          { return do(api.Call{Kind: api.CallReaddir, Path: s}) }
func room() op                     { return do(api.Call{Kind: api.CallRoom}) }
func truncate(s string, size int) op {
	return do(api.Call{Kind: api.CallTruncate, Path: s, Size: size})
}
func writeTo(s string, off int, data string) op {
	return do(api.Call{Kind: api.CallWrite, Path: s, Offset: off, Data: data})
}
func readOf(s string, off, n int) op {
	return do(api.Call{Kind: api.CallRead, Path: s, Offset: off, Size: n})
}

func (p op) String() string {
	switch p.name {
	case "Do":
		return fmt.Sprintf("Do(kind %d, %.60q, other %.60q, offset %d, size %d, %d bytes)", p.c.Kind, p.c.Path, p.c.Other, p.c.Offset, p.c.Size, len(p.c.Data))
	case "Open":
		return fmt.Sprintf("Open(%.60q, %d)", p.s, p.n)
	case "Seek":
		return fmt.Sprintf("Seek(%d, %d, %d)", p.fd, p.n, p.k)
	}
	return fmt.Sprintf("%s(%d, %d, %.20q (%d bytes))", p.name, p.fd, p.n, p.s, len(p.s))
}

// on makes the call. A list of no names is the same as none (W4).
func (p op) on(f face) out {
	var o out
	switch p.name {
	case "Open":
		o.n, o.e = f.Open(p.s, p.n)
	case "Close":
		o.e = f.Close(p.fd)
	case "Dup":
		o.n, o.e = f.Dup(p.fd)
	case "Read":
		o.text, o.e = f.Read(p.fd, p.n)
	case "Write":
		o.n, o.e = f.Write(p.fd, p.s)
	case "Seek":
		o.n, o.e = f.Seek(p.fd, p.n, p.k)
	case "Cut":
		o.e = f.Cut(p.fd, p.n)
	case "Stat":
		o.stat, o.e = f.Stat(p.fd)
	case "Do":
		o.a = f.Do(p.c)
		o.e = o.a.Err
		if len(o.a.Names) == 0 {
			o.a.Names = nil
		}
	default:
		panic(p.name)
	}
	return o
}

// refusal is what a call answers that is refused.
func (p op) refusal(e api.Errno) out {
	if p.name == "Do" {
		return out{a: api.Answer{Err: e}, e: e}
	}
	return out{e: e}
}

func same(a, b out) bool { return reflect.DeepEqual(a, b) }

func (o out) String() string {
	if len(o.a.Data) > 60 {
		o.a.Data = fmt.Sprintf("%d bytes, sum %x", len(o.a.Data), crc32.ChecksumIEEE([]byte(o.a.Data)))
	}
	if len(o.text) > 60 {
		o.text = fmt.Sprintf("%d bytes, sum %x", len(o.text), crc32.ChecksumIEEE([]byte(o.text)))
	}
	return fmt.Sprintf("%+v %d %q %+v E%d", o.a, o.n, o.text, o.stat, int(o.e))
}

// desk is a table of open files, with the disk of its file system.
type desk struct {
	t *testing.T
	d *adisk.Disk
	f *vfs.FS // for looking at what no number and no name leads to; the calls go through the table
	*fds.Table
}

func mounted(t *testing.T, d *adisk.Disk) *desk {
	t.Helper()
	f, e := vfs.Mount(d)
	if e != api.OK {
		t.Fatalf("P20.2: Mount: %d; check finds %v", e, check.Image(d.Image()))
	}
	x := fds.New(f)
	if x == nil || len(x.Numbers()) > 0 {
		t.Fatalf("P21.1: a new table has open numbers, or is none")
	}
	return &desk{t, d, f, x}
}

// fresh is a table of a new file system.
func fresh(t *testing.T, n int) *desk {
	t.Helper()
	d, e := adisk.New(n)
	if e != api.OK || vfs.Mkfs(d) != api.OK {
		t.Fatalf("P20.1: no file system of %d blocks", n)
	}
	return mounted(t, d)
}

// opened is a table of the file system of an image.
func opened(t *testing.T, image []byte) *desk {
	t.Helper()
	d, e := adisk.Open(image)
	if e != api.OK {
		t.Fatalf("a disk of %d bytes: %d", len(image), e)
	}
	return mounted(t, d)
}

func (b *desk) steps() int {
	w, f := b.d.Steps()
	return w + f
}

// errors are all that a call of a table answers.
var errors = []api.Errno{
	api.OK, api.ErrFd, api.ErrFds, api.ErrAccess, api.ErrInval, api.ErrTooLong, api.ErrNone, api.ErrNotDir, api.ErrLoop, api.ErrExist, api.ErrIsDir, api.ErrNotEmpty,
	api.ErrBusy, api.ErrPerm, api.ErrLinks, api.ErrSpace, api.ErrBig, api.ErrDown,
}

// places are the open numbers with their places.
func places(f face) string {
	var s strings.Builder
	for _, fd := range f.Numbers() {
		place, e := f.Seek(fd, 0, api.FromHere)
		fmt.Fprintf(&s, "%d at %d (%d); ", fd, place, e)
	}
	return s.String()
}

// call makes a call, and holds what is so of every one: which errors there are, that all else is zero beside one, that one that is refused changes nothing, which numbers are open behind it.
func (b *desk) call(p op) out {
	b.t.Helper()
	before, was, numbers := b.steps(), places(b), b.Numbers()
	o := p.on(b.Table)
	if !slices.Contains(errors, o.e) {
		b.t.Errorf("chapter 21, Errors: %v: %v", p, o)
	}
	if o.e != api.OK && !same(o, p.refusal(o.e)) {
		b.t.Errorf("W2: %v: %v", p, o)
	}
	closed := p.name == "Close" && slices.Contains(numbers, p.fd)
	if o.e != api.OK && !closed && places(b) != was {
		b.t.Errorf("W2: %v: %v: open were %s, open are %s", p, o, was, places(b))
	}
	if o.e != api.OK && !b.d.Down() && b.steps() != before {
		b.t.Errorf("W2: %v: %v, with %d steps", p, o, b.steps()-before)
	}
	switch {
	case closed:
		numbers = slices.DeleteFunc(numbers, func(fd int) bool { return fd == p.fd })
	case o.e == api.OK && (p.name == "Open" || p.name == "Dup"):
		numbers = append(numbers, o.n)
	}
	b.sameNumbers(p, numbers)
	return o
}

// sameNumbers holds which numbers are open, and that they are told rising, each once.
func (b *desk) sameNumbers(what any, want []int) {
	b.t.Helper()
	slices.Sort(want)
	if got := b.Numbers(); !slices.Equal(got, want) {
		b.t.Errorf("P21.1: behind %v the open numbers are %v, want %v", what, got, want)
	}
}

// gives makes a call that is to answer just this.
func (b *desk) gives(p op, want out) {
	b.t.Helper()
	if o := b.call(p); !same(o, want) {
		b.t.Errorf("chapter 21: %v: %v, want %v", p, o, want)
	}
}

// tells makes a call that is to answer a number.
func (b *desk) tells(p op, n int) {
	b.t.Helper()
	b.gives(p, out{n: n})
}

// reads makes a Read that is to tell these bytes.
func (b *desk) reads(fd, n int, want string) {
	b.t.Helper()
	b.gives(reads(fd, n), out{text: want})
}

// opens opens a path: its number is to be fd.
func (b *desk) opens(fd int, s string, flags int) {
	b.t.Helper()
	b.tells(opens(s, flags), fd)
}

// does makes calls that are not to be refused.
func (b *desk) does(ops ...op) {
	b.t.Helper()
	for _, p := range ops {
		if o := b.call(p); o.e != api.OK {
			b.t.Fatalf("chapter 21: %v: %v", p, o)
		}
	}
}

// refuses makes calls that are to be refused. (That they change no number and no place, and have no step, call holds.)
func (b *desk) refuses(e api.Errno, ops ...op) {
	b.t.Helper()
	for _, p := range ops {
		if o := b.call(p); !same(o, p.refusal(e)) {
			b.t.Errorf("chapter 21: %v: %v, want %d", p, o, e)
		}
	}
}

// at holds the place of an open number.
func (b *desk) at(fd, place int) {
	b.t.Helper()
	b.tells(seeks(fd, 0, api.FromHere), place)
}

// is holds what Stat tells of an open number.
func (b *desk) is(fd, inode, links, size, blocks int) {
	b.t.Helper()
	b.gives(stats(fd), out{stat: api.Stat{Inode: inode, Kind: api.KindFile, Links: links, Size: size, Blocks: blocks}})
}

// free holds how many blocks and inodes are free.
func (b *desk) free(blocks, inodes int) {
	b.t.Helper()
	if r := b.Do(room().c).Room; r.FreeBlocks != blocks || r.FreeInodes != inodes {
		b.t.Errorf("P21.10: free are %d blocks and %d inodes, want %d and %d", r.FreeBlocks, r.FreeInodes, blocks, inodes)
	}
}

// holds holds the bytes of what a path names.
func (b *desk) holds(s, data string) {
	b.t.Helper()
	if got := all(b.f, b.Do(api.Call{Kind: api.CallStat, Path: s}).Stat.Inode); got != data {
		b.t.Errorf("chapter 21: %s has the bytes %.60q (%d), want %.60q (%d)", s, got, len(got), data, len(data))
	}
}

// right holds that check finds nothing on the disk but these orphans.
func (b *desk) right(what any, orphans ...int) {
	b.t.Helper()
	var want []api.Finding
	for _, n := range orphans {
		want = append(want, api.Finding{Kind: api.FindOrphan, Inode: n})
	}
	if l := check.Image(b.d.Image()); !slices.Equal(l, want) {
		b.t.Fatalf("P21.10: behind %v check finds %v, want %v", what, l, want)
	}
}

// closesAll closes all numbers; then the table has left no orphan.
func (b *desk) closesAll() {
	b.t.Helper()
	for _, fd := range b.Numbers() {
		b.does(closes(fd))
	}
	b.right("all Closes")
}

// numbered is what can be asked of a file system by an inode's number.
type numbered interface {
	ReadAt(n, off, size int) (string, api.Errno)
	StatAt(n int) (api.Stat, api.Errno)
}

// all is the bytes of a file; of a great one its beginning and its end.
func all(f numbered, n int) string {
	st, _ := f.StatAt(n)
	var s strings.Builder
	for off := 0; off < st.Size; {
		part, e := f.ReadAt(n, off, api.MaxIO)
		if e != api.OK || part == "" {
			return fmt.Sprintf("at %d: %d", off, e)
		}
		s.WriteString(part)
		off += len(part)
		if off > 1<<18 && off < st.Size-1<<16 {
			off = st.Size - 1<<16
		}
	}
	return s.String()
}

// noNumbers are numbers that no table ever opens, some of them right in their lower bytes.
func noNumbers() []int {
	return []int{math.MinInt, math.MinInt + 1, -1 << 32, -16, -15, -2, -1, 16, 17, 31, 256, 1 << 16, 1 << 32, 1<<32 + 1, math.MaxInt - 1, math.MaxInt}
}

// ofNumber are calls of a number, whatever else they are handed.
func ofNumber(fd int) []op {
	return []op{
		closes(fd), dups(fd), stats(fd), reads(fd, 0), reads(fd, 1), reads(fd, -1), reads(fd, 16385), writes(fd, ""), writes(fd, "x"), writes(fd, rep("x", 16385)),
		seeks(fd, 0, 0), seeks(fd, 0, 1), seeks(fd, 0, 2), seeks(fd, 0, 3), seeks(fd, -1, 0), seeks(fd, -1, -1), cuts(fd, 0), cuts(fd, -1), cuts(fd, 8459265),
	}
}
