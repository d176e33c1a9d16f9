package vfs_test

import (
	"bytes"
	"fmt"
	"hash/crc32"
	"math"
	"reflect"
	"slices"
	"strings"
	"testing"

	"bole/adisk"
	"bole/api"
	"bole/check"
	"bole/vfs"
)

const size = api.BlockSize

func rep(s string, n int) string { return strings.Repeat(s, n) }

func zeros(n int) string { return rep("\x00", n) }

// face is the calls of a file system.
type face interface {
	Do(c api.Call) api.Answer
	Unlink(s string, hold bool) (int, api.Errno)
	Rename(old, other string, hold bool) (int, api.Errno)
	Open(s string, create, excl bool) (int, api.Errno)
	ReadAt(n, off, size int) (string, api.Errno)
	WriteAt(n, off int, s string) api.Errno
	CutAt(n, size int) api.Errno
	StatAt(n int) (api.Stat, api.Errno)
	Release(n int) api.Errno
}

// op is a call with its arguments.
type op struct {
	name     string
	c        api.Call // of Do alone
	a, b     string
	yes, too bool // hold; create and excl
	n        int
	off, len int
}

// out is all that a call answers.
type out struct {
	a    api.Answer
	n    int
	text string
	stat api.Stat
	e    api.Errno
}

func do(c api.Call) op            { return op{name: "Do", c: c} }
func create(s string) op          { return do(api.Call{Kind: api.CallCreate, Path: s}) }
func mkdir(s string) op           { return do(api.Call{Kind: api.CallMkdir, Path: s}) }
func symlink(text, s string) op   { return do(api.Call{Kind: api.CallSymlink, Path: s, Other: text}) }
func link(old, other string) op   { return do(api.Call{Kind: api.CallLink, Path: old, Other: other}) }
func unlink(s string) op          { return do(api.Call{Kind: api.CallUnlink, Path: s}) }
func rmdir(s string) op           { return do(api.Call{Kind: api.CallRmdir, Path: s}) }
func rename(old, other string) op { return do(api.Call{Kind: api.CallRename, Path: old, Other: other}) }
func read(s string, off, n int) op {
	return do(api.Call{Kind: api.CallRead, Path: s, Offset: off, Size: n})
}
func write(s string, off int, data string) op {
	return do(api.Call{Kind: api.CallWrite, Path: s, Offset: off, Data: data})
}
func truncate(s string, n int) op { return do(api.Call{Kind: api.CallTruncate, Path: s, Size: n}) }
func readlink(s string) op        { return do(api.Call{Kind: api.CallReadlink, Path: s}) }
func stat(s string) op            { return do(api.Call{Kind: api.CallStat, Path: s}) }
func lstat(s string) op           { return do(api.Call{Kind: api.CallLstat, Path: s}) }
func readdir(s string) op         { return do(api.Call{Kind: api.CallReaddir, Path: s}) }
func room() op                    { return do(api.Call{Kind: api.CallRoom}) }

func unlinkAs(s string, hold bool) op { return op{name: "Unlink", a: s, yes: hold} }
func renameAs(old, other string, hold bool) op {
	return op{name: "Rename", a: old, b: other, yes: hold}
}
func open(s string, create, excl bool) op { return op{name: "Open", a: s, yes: create, too: excl} }
func readAt(n, off, len int) op           { return op{name: "ReadAt", n: n, off: off, len: len} }
func writeAt(n, off int, s string) op     { return op{name: "WriteAt", n: n, off: off, a: s} }
func cutAt(n, len int) op                 { return op{name: "CutAt", n: n, len: len} }
func statAt(n int) op                     { return op{name: "StatAt", n: n} }
func release(n int) op                    { return op{name: "Release", n: n} }

func (p op) String() string {
	switch p.name {
	case "Do":
		return fmt.Sprintf("Do(kind %d, %.60q, other %.60q, offset %d, size %d, %d bytes)", p.c.Kind, p.c.Path, p.c.Other, p.c.Offset, p.c.Size, len(p.c.Data))
	case "Unlink", "Rename", "Open":
		return fmt.Sprintf("%s(%.60q, %.60q, %t, %t)", p.name, p.a, p.b, p.yes, p.too)
	}
	return fmt.Sprintf("%s(%d, %d, %d, %d bytes)", p.name, p.n, p.off, p.len, len(p.a))
}

// on makes the call. A list of no names is the same as none (W4).
func (p op) on(f face) out {
	var o out
	switch p.name {
	case "Do":
		o.a = f.Do(p.c)
		o.e = o.a.Err
		if len(o.a.Names) == 0 {
			o.a.Names = nil
		}
	case "Unlink":
		o.n, o.e = f.Unlink(p.a, p.yes)
	case "Rename":
		o.n, o.e = f.Rename(p.a, p.b, p.yes)
	case "Open":
		o.n, o.e = f.Open(p.a, p.yes, p.too)
	case "ReadAt":
		o.text, o.e = f.ReadAt(p.n, p.off, p.len)
	case "WriteAt":
		o.e = f.WriteAt(p.n, p.off, p.a)
	case "CutAt":
		o.e = f.CutAt(p.n, p.len)
	case "StatAt":
		o.stat, o.e = f.StatAt(p.n)
	case "Release":
		o.e = f.Release(p.n)
	default:
		panic(p.name)
	}
	return o
}

// refusal is what a call answers that is refused.
func (p op) refusal(e api.Errno) out {
	if p.name == "Do" {
		return out{a: api.Answer{Err: e}, e: e}
	}
	return out{e: e}
}

// tells holds of a call that changes nothing, whatever it is handed.
func (p op) tells() bool {
	switch p.name {
	case "Do":
		return slices.Contains([]int{api.CallRead, api.CallReadlink, api.CallStat, api.CallLstat, api.CallReaddir, api.CallRoom}, p.c.Kind)
	case "ReadAt", "StatAt":
		return true
	}
	return false
}

// bytes is how many a call has of data.
func (p op) bytes() int {
	switch {
	case p.name == "WriteAt":
		return len(p.a)
	case p.name == "Do" && p.c.Kind == api.CallWrite:
		return len(p.c.Data)
	case p.name == "Do" && p.c.Kind == api.CallSymlink:
		return len(p.c.Other)
	}
	return 0
}

func same(a, b out) bool { return reflect.DeepEqual(a, b) }

func (o out) String() string {
	if len(o.a.Data) > 60 {
		o.a.Data = fmt.Sprintf("%d bytes, sum %x", len(o.a.Data), crc32.ChecksumIEEE([]byte(o.a.Data)))
	}
	if len(o.text) > 60 {
		o.text = fmt.Sprintf("%d bytes, sum %x", len(o.text), crc32.ChecksumIEEE([]byte(o.text)))
	}
	return fmt.Sprintf("%+v %d %q %+v E%d", o.a, o.n, o.text, o.stat, int(o.e))
}

// box is a mounted file system, with its disk.
type box struct {
	t *testing.T
	d *adisk.Disk
	*vfs.FS
}

// used is a disk that holds other bytes.
func used(t *testing.T, n int) *adisk.Disk {
	t.Helper()
	return disk(t, bytes.Repeat([]byte{0xA5}, n*size))
}

func disk(t *testing.T, image []byte) *adisk.Disk {
	t.Helper()
	d, e := adisk.Open(image)
	if e != api.OK {
		t.Fatalf("a disk of %d bytes: %d", len(image), e)
	}
	return d
}

// fresh is a file system that was made on a disk that held other bytes.
func fresh(t *testing.T, n int) *box {
	t.Helper()
	d := used(t, n)
	if e := vfs.Mkfs(d); e != api.OK {
		t.Fatalf("P20.1: Mkfs of %d blocks: %d", n, e)
	}
	return mounted(t, d)
}

func mounted(t *testing.T, d *adisk.Disk) *box {
	t.Helper()
	f, e := vfs.Mount(d)
	if e != api.OK || f == nil {
		t.Fatalf("P20.2: Mount: %v, %d; check finds %v", f, e, few(check.Image(d.Image())))
	}
	return &box{t, d, f}
}

// opened is the file system of an image.
func opened(t *testing.T, image []byte) *box {
	t.Helper()
	return mounted(t, disk(t, image))
}

// copy is the file system of a disk that was opened with the same bytes.
func (b *box) copy() *box {
	b.t.Helper()
	return opened(b.t, b.d.Image())
}

// few tells a list, if it isn't long.
func few(l []api.Finding) string {
	if len(l) > 12 {
		return fmt.Sprint(l[:12], " and ", len(l)-12, " more")
	}
	return fmt.Sprint(l)
}

// steps is how many a disk has taken.
func steps(d *adisk.Disk) int {
	w, f := d.Steps()
	return w + f
}

// errors are all that a call answers on a disk that Mount has taken.
var errors = []api.Errno{
	api.OK, api.ErrInval, api.ErrTooLong, api.ErrNone, api.ErrNotDir, api.ErrLoop, api.ErrExist, api.ErrIsDir, api.ErrNotEmpty, api.ErrBusy, api.ErrPerm,
	api.ErrLinks, api.ErrSpace, api.ErrBig, api.ErrInode, api.ErrDown,
}

// call makes a call, and holds what is so of every one: which errors there are (Errors, P0.4), that all else is zero beside one (W2), how many steps it has (P0.6, D9), that nothing is pending behind it.
func (b *box) call(p op) out {
	b.t.Helper()
	writes, flushes := b.d.Steps()
	o := p.on(b.FS)
	w, f := b.d.Steps()
	w, f = w-writes, f-flushes
	if !slices.Contains(errors, o.e) {
		b.t.Errorf("chapter 20, Errors: %v: %v", p, o)
	}
	if o.e != api.OK && !same(o, p.refusal(o.e)) {
		b.t.Errorf("W2: %v: %v", p, o)
	}
	if b.d.Down() {
		return o
	}
	if o.e == api.ErrDown {
		b.t.Errorf("P20.8: %v: %v, and the power is on", p, o)
	}
	if (o.e != api.OK || p.tells()) && w+f > 0 {
		b.t.Errorf("D9: %v: %v: it has %d writes and %d flushes", p, o, w, f)
	}
	if most := 2*(p.bytes()/512+12) + 2; w > most || f > 4 {
		b.t.Errorf("P0.6: %v has %d writes and %d flushes, at most %d and 4 may be", p, w, f, most)
	}
	if l := b.d.Pending(); len(l) > 0 {
		b.t.Errorf("P20.8: behind %v the blocks %v are pending", p, l)
	}
	return o
}

// gives makes a call that is to answer just this.
func (b *box) gives(p op, want out) {
	b.t.Helper()
	if o := b.call(p); !same(o, want) {
		b.t.Errorf("P20.3: %v: %v, want %v", p, o, want)
	}
}

// answers makes a call of Do that is to answer just this.
func (b *box) answers(p op, want api.Answer) {
	b.t.Helper()
	b.gives(p, out{a: want, e: want.Err})
}

func (b *box) makes(p op, n int) {
	b.t.Helper()
	b.answers(p, api.Answer{N: n})
}

// tellsNumber makes a call of a function that is to answer a number.
func (b *box) tellsNumber(p op, n int) {
	b.t.Helper()
	b.gives(p, out{n: n})
}

// does makes calls that are not to be refused.
func (b *box) does(ops ...op) {
	b.t.Helper()
	for _, p := range ops {
		if o := b.call(p); o.e != api.OK {
			b.t.Fatalf("P20.3: %v: %v", p, o)
		}
	}
}

// refuses makes calls that are to be refused. (That they have no step, call holds: so nothing has changed.)
func (b *box) refuses(e api.Errno, ops ...op) {
	b.t.Helper()
	for _, p := range ops {
		before := sight(b)
		if o := b.call(p); !same(o, p.refusal(e)) {
			b.t.Errorf("P20.3: %v: %v, want %d", p, o, e)
		}
		if after := sight(b); after != before {
			b.t.Errorf("W2: %v is refused, and something has changed:\n%s\n%s", p, before, after)
		}
	}
}

// findsDown makes calls that the power goes in, or is out at.
func (b *box) findsDown(ops ...op) {
	b.t.Helper()
	for _, p := range ops {
		if o := b.call(p); !same(o, p.refusal(api.ErrDown)) || !b.d.Down() {
			b.t.Errorf("P20.8: %v: %v, and the power is to be out", p, o)
		}
	}
}

// unchanged makes calls that are not refused, and have no step.
func (b *box) unchanged(ops ...op) {
	b.t.Helper()
	for _, p := range ops {
		before := steps(b.d)
		if o := b.call(p); o.e != api.OK || o.n != 0 || steps(b.d) != before {
			b.t.Errorf("D9: %v: %v, with %d steps", p, o, steps(b.d)-before)
		}
	}
}

// changed makes calls that are not refused, and have steps.
func (b *box) changed(ops ...op) {
	b.t.Helper()
	for _, p := range ops {
		before := steps(b.d)
		b.does(p)
		if steps(b.d) == before {
			b.t.Errorf("P20.3: %v has no step", p)
		}
	}
}

// is holds all that is to be known of what a path names.
func (b *box) is(s string, n, kind, links, size, blocks int) {
	b.t.Helper()
	b.answers(lstat(s), api.Answer{Stat: api.Stat{Inode: n, Kind: kind, Links: links, Size: size, Blocks: blocks}})
}

// free holds how many blocks and inodes are free.
func (b *box) free(blocks, inodes int) {
	b.t.Helper()
	if r := b.Do(room().c).Room; r.FreeBlocks != blocks || r.FreeInodes != inodes {
		b.t.Errorf("P20.3: free are %d blocks and %d inodes, want %d and %d", r.FreeBlocks, r.FreeInodes, blocks, inodes)
	}
}

func (b *box) holds(s, data string) {
	b.t.Helper()
	n := b.Do(stat(s).c).Stat.Inode
	if got := all(b, n); got != data {
		b.t.Errorf("P20.3: %s has the bytes %.60q (%d), want %.60q (%d)", s, got, len(got), data, len(data))
	}
}

func (b *box) lists(s string, names ...string) {
	b.t.Helper()
	b.answers(readdir(s), api.Answer{Names: names})
}

// orphans are the files without a name.
func orphans(f face) []int {
	var l []int
	inodes := f.Do(room().c).Room.Inodes
	for n := 1; n <= inodes; n++ {
		if st, e := f.StatAt(n); e == api.OK && st.Kind == api.KindFile && st.Links == 0 {
			l = append(l, n)
		}
	}
	return l
}

// right holds that check finds nothing on the disk but its orphans.
func (b *box) right(what any) {
	b.t.Helper()
	var want []api.Finding
	for _, n := range orphans(b) {
		want = append(want, api.Finding{Kind: api.FindOrphan, Inode: n})
	}
	if l := check.Image(b.d.Image()); !slices.Equal(l, want) {
		b.t.Fatalf("P0.5: behind %v check finds %v, want %v", what, few(l), few(want))
	}
}

// all is the bytes of a file, gone through by its number; of a great one its beginning and its end.
func all(f face, n int) string {
	st, _ := f.StatAt(n)
	var s strings.Builder
	for off := 0; off < st.Size; {
		part, e := f.ReadAt(n, off, api.MaxIO)
		if e != api.OK || part == "" {
			return fmt.Sprintf("at %d: %d", off, e)
		}
		s.WriteString(part)
		off += len(part)
		if off > 1<<18 && off < st.Size-1<<16 {
			off = st.Size - 1<<16
		}
	}
	return s.String()
}

// sight is all that a file system tells of itself: what is free, each inode with its bytes, each name.
func sight(f face) string {
	var s strings.Builder
	r := f.Do(room().c).Room
	fmt.Fprint(&s, r, "\n")
	for n := 1; n <= r.Inodes; n++ {
		if st, e := f.StatAt(n); e == api.OK {
			fmt.Fprintf(&s, "%v", st)
			if st.Kind == api.KindFile {
				fmt.Fprintf(&s, " %x", crc32.ChecksumIEEE([]byte(all(f, n))))
			}
			s.WriteString("\n")
		}
	}
	names(f, &s, "")
	return s.String()
}

// names tells the names below a directory, each with its inode, and what links say. (A name that lies deep has no path that is too long: D7.)
func names(f face, s *strings.Builder, at string) {
	top := at
	if at == "" {
		top = "/"
	}
	for _, name := range f.Do(readdir(top).c).Names {
		a := f.Do(lstat(at + "/" + name).c)
		fmt.Fprintf(s, "%s/%s %d %s\n", at, name, a.Stat.Inode, f.Do(readlink(at+"/"+name).c).Data)
		if a.Stat.Kind == api.KindDir {
			names(f, s, at+"/"+name)
		}
	}
}

// noKinds are Kinds that no call has, some of them right in their lower bytes.
func noKinds() []int {
	return []int{math.MinInt, -1 << 32, -15, -1, 0, 16, 17, 99, 1<<8 + 1, 1<<16 + 3, 1<<32 + 1, 1<<32 + 15, math.MaxInt}
}

// noInodes are numbers that no inode of a file system with so many has.
func noInodes(count int) []int {
	return []int{math.MinInt, math.MinInt + 1, -1 << 32, -1, 0, count, count + 1, 1 << 16, 1<<16 + 1, 1<<32 + 1, 1<<32 + 2, math.MaxInt}
}

// noPaths are texts that path.Parse doesn't take, with their errors.
var noPaths = map[string]api.Errno{
	"": api.ErrInval, "a": api.ErrInval, "a/b": api.ErrInval, "/\x00": api.ErrInval, "/a\x00": api.ErrInval, "/a/\x00/b": api.ErrInval,
	rep("x", 1025): api.ErrInval, rep("/x", 40) + "\x00": api.ErrInval,
	rep("/", 1025): api.ErrTooLong, "/" + rep("x", 28): api.ErrTooLong, "/a/" + rep("x", 28) + "/b": api.ErrTooLong, rep("/x", 33): api.ErrTooLong,
}

// noNames are more of them that path.Make doesn't take.
var noNames = map[string]api.Errno{
	"/.": api.ErrInval, "/..": api.ErrInval, "/a/.": api.ErrInval, "/a/..//": api.ErrInval, "/" + rep("x", 28) + "/.": api.ErrInval, rep("/x", 33) + "/..": api.ErrInval,
}

// noTexts are texts that path.Text doesn't take, with their errors.
var noTexts = map[string]api.Errno{
	"": api.ErrInval, "\x00": api.ErrInval, "a\x00": api.ErrInval, rep("x", 1025) + "\x00": api.ErrInval,
	rep("/", 1025): api.ErrTooLong, rep("x", 28): api.ErrTooLong, rep("x/", 33): api.ErrTooLong, "a/" + rep("x", 28): api.ErrTooLong, rep("../", 33): api.ErrTooLong,
}
