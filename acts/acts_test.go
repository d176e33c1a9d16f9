package acts_test

import (
	"bytes"
	"encoding/binary"
	"fmt"
	"hash/crc32"
	"math"
	"slices"
	"strings"
	"testing"

	"bole/acts"
	"bole/adisk"
	"bole/api"
	"bole/bmap"
	"bole/dir"
	"bole/file"
	"bole/geo"
	"bole/inode"
	"bole/space"
	"bole/txn"
	"bole/walk"
)

const size = api.BlockSize

func rep(s string, n int) string { return strings.Repeat(s, n) }

// call is a call of the chapter that changes something, with its arguments.
type call struct {
	op   string
	a, b string
	hold bool
	n    int
}

func create(s string) call        { return call{op: "Create", a: s} }
func mkdir(s string) call         { return call{op: "Mkdir", a: s} }
func symlink(text, s string) call { return call{op: "Symlink", a: text, b: s} }
func link(old, other string) call { return call{op: "Link", a: old, b: other} }
func unlink(s string) call        { return call{op: "Unlink", a: s} }
func rmdir(s string) call         { return call{op: "Rmdir", a: s} }
func rename(old, other string) call {
	return call{op: "Rename", a: old, b: other}
}
func release(n int) call { return call{op: "Release", n: n} }

// held is an Unlink or Rename of what somebody holds.
func held(c call) call {
	c.hold = true
	return c
}

func (c call) String() string {
	if c.op == "Release" {
		return fmt.Sprintf("Release(%d)", c.n)
	}
	return fmt.Sprintf("%s(%.60q, %.60q, %t)", c.op, c.a, c.b, c.hold)
}

// on makes the call.
func (c call) on(x *txn.Txn, g api.Geo) (int, api.Errno) {
	switch c.op {
	case "Create":
		return acts.Create(x, g, c.a)
	case "Mkdir":
		return acts.Mkdir(x, g, c.a)
	case "Symlink":
		return acts.Symlink(x, g, c.a, c.b)
	case "Link":
		return 0, acts.Link(x, g, c.a, c.b)
	case "Unlink":
		return acts.Unlink(x, g, c.a, c.hold)
	case "Rmdir":
		return 0, acts.Rmdir(x, g, c.a)
	case "Rename":
		return acts.Rename(x, g, c.a, c.b, c.hold)
	case "Release":
		return 0, acts.Release(x, g, c.n)
	}
	panic(c.op)
}

// promise is which one speaks of the call.
func (c call) promise() string {
	return "P17." + map[string]string{"Create": "1", "Mkdir": "2", "Symlink": "3", "Link": "4", "Unlink": "5", "Rmdir": "6", "Rename": "7", "Release": "8"}[c.op]
}

// world is a disk with a transaction on it.
type world struct {
	t *testing.T
	g api.Geo
	d *adisk.Disk
	x *txn.Txn
}

// on is a disk with these bytes over a bitmap of which all data is free.
func on(t *testing.T, n int, lay func(g api.Geo, b []byte)) *world {
	t.Helper()
	g, e := geo.Of(n)
	if e != api.OK {
		t.Fatalf("a disk of %d blocks: %d", n, e)
	}
	b := make([]byte, n*size)
	for k := range (g.Inodes - g.Bitmap) * 4096 {
		if k < g.Data || k >= n {
			take(b, k)
		}
	}
	lay(g, b)
	d, e := adisk.Open(b)
	if e != api.OK {
		t.Fatalf("a disk of %d bytes: %d", len(b), e)
	}
	return &world{t, g, d, txn.Begin(d)}
}

// take puts a block's bit on, in an image.
func take(b []byte, k int) { b[98*size+k/8] |= 1 << (k % 8) }

// fresh is a disk behind mkfs; old bytes stand in its data.
func fresh(t *testing.T, n int) *world {
	t.Helper()
	return on(t, n, func(g api.Geo, b []byte) {
		for i := g.Data * size; i < len(b); i++ {
			b[i] = 7
		}
		layRecord(t, g, b, 1, api.Inode{Kind: 2, Links: 2})
	})
}

func layRecord(t *testing.T, g api.Geo, b []byte, n int, x api.Inode) {
	t.Helper()
	raw, e := inode.Encode(x)
	if e != api.OK {
		t.Fatalf("the record %v: %d", x, e)
	}
	copy(b[g.Inodes*size+64*n:], raw)
}

// thing is an inode as it is laid on a disk past the calls: its record, and its bytes, in blocks of its own.
type thing struct {
	x api.Inode
	b []byte
}

func has(name string, inode int) api.Entry { return api.Entry{Name: name, Inode: inode} }

// cellBytes is a cell's 32 bytes, of the words of chapter 14; of an inode 0 it is free.
func cellBytes(c api.Entry) []byte {
	raw := make([]byte, 32)
	if c.Inode != 0 {
		binary.LittleEndian.PutUint32(raw, uint32(c.Inode))
		raw[4] = byte(len(c.Name))
		copy(raw[5:], c.Name)
	}
	return raw
}

// folder is a directory with these names, in this order of places; an inode of 0 leaves a cell free.
func folder(links int, l ...api.Entry) thing {
	b := make([]byte, (len(l)+15)/16*size)
	for place, c := range l {
		copy(b[32*place:], cellBytes(c))
	}
	return thing{api.Inode{Kind: 2, Links: links, Size: len(b)}, b}
}

func plainFile(links int, s string) thing {
	return thing{api.Inode{Kind: 1, Links: links, Size: len(s)}, []byte(s)}
}

func linkTo(links int, s string) thing {
	return thing{api.Inode{Kind: 3, Links: links, Size: len(s)}, []byte(s)}
}

// at is the block of a thing's bytes at an index, on a disk of 1024 blocks: 128 inodes, of which each has up to seven.
func at(n, index int) int { return 115 + 128*index + n }

// laid is a disk of 1024 blocks with these things by their numbers, their blocks taken; all other inodes are free.
func laid(t *testing.T, things map[int]thing) *world {
	t.Helper()
	return on(t, 1024, func(g api.Geo, b []byte) {
		for n, o := range things {
			for index, part := range slices.Collect(slices.Chunk(o.b, size)) {
				copy(b[at(n, index)*size:], part)
				take(b, at(n, index))
				if o.x.Direct[index] == 0 {
					o.x.Direct[index] = at(n, index)
				}
			}
			layRecord(t, g, b, n, o.x)
		}
	})
}

func want(t *testing.T, what string, e, code api.Errno) {
	t.Helper()
	if e != code {
		t.Errorf("%s: %d, want %d", what, e, code)
	}
}

// gives makes a call that is to answer n.
func (w *world) gives(c call, n int) {
	w.t.Helper()
	if m, e := c.on(w.x, w.g); m != n || e != api.OK {
		w.t.Errorf("%s: %v: %d, %d, want %d", c.promise(), c, m, e, n)
	}
}

// does makes calls of which each is to answer 0, or what it has made.
func (w *world) does(calls ...call) {
	w.t.Helper()
	for _, c := range calls {
		if _, e := c.on(w.x, w.g); e != api.OK {
			w.t.Fatalf("%s: %v: %d", c.promise(), c, e)
		}
	}
}

// refuses makes calls that are to be refused, with nothing changed.
func (w *world) refuses(code api.Errno, calls ...call) {
	w.t.Helper()
	for _, c := range calls {
		before := w.sight()
		if m, e := c.on(w.x, w.g); m != 0 || e != code {
			w.t.Errorf("%s: %v: %d, %d, want 0, %d", c.promise(), c, m, e, code)
		}
		if w.sight() != before {
			w.t.Errorf("%s, W2: %v is refused, and something has changed", c.promise(), c)
		}
	}
}

// sight is all that a transaction and its disk tell of themselves: what is put, and its bytes; how many steps the disk had.
func (w *world) sight() string {
	writes, flushes := w.d.Steps()
	put := w.x.Written()
	sum := crc32.NewIEEE()
	for _, i := range put {
		b, e := w.x.Read(i)
		sum.Write(append(b, byte(e)))
	}
	return fmt.Sprint(put, w.x.Over(), w.d.Down(), writes, flushes, w.d.Pending(), sum.Sum32())
}

// still does something and holds that the transaction and its disk are as they were.
func (w *world) still(what string, does func()) {
	w.t.Helper()
	before := w.sight()
	does()
	if w.sight() != before {
		w.t.Errorf("%s: something has changed", what)
	}
}

func (w *world) orphans(l ...int) {
	w.t.Helper()
	w.still("P17.9", func() {
		if o, e := acts.Orphans(w.x, w.g); !slices.Equal(o, l) || e != api.OK {
			w.t.Errorf("P17.9: Orphans: %v, %d, want %v", o, e, l)
		}
	})
}

func (w *world) noOrphans(code api.Errno) {
	w.t.Helper()
	w.still("P17.9", func() {
		if o, e := acts.Orphans(w.x, w.g); len(o) != 0 || e != code {
			w.t.Errorf("P17.9: Orphans: %v, %d, want none, %d", o, e, code)
		}
	})
}

func (w *world) record(n int) api.Inode {
	w.t.Helper()
	x, e := inode.Get(w.x, w.g, n)
	if e != api.OK {
		w.t.Fatalf("inode %d: %d", n, e)
	}
	return x
}

func (w *world) is(n int, x api.Inode) {
	w.t.Helper()
	if y := w.record(n); y != x {
		w.t.Errorf("inode %d is %v, want %v", n, y, x)
	}
}

func (w *world) links(n, count int) {
	w.t.Helper()
	if x := w.record(n); x.Links != count {
		w.t.Errorf("inode %d has the Links %d, want %d", n, x.Links, count)
	}
}

// free holds how many blocks and inodes are free.
func (w *world) free(blocks, inodes int) {
	w.t.Helper()
	b, e := space.Free(w.x, w.g)
	i, f := inode.Free(w.x, w.g)
	if b != blocks || i != inodes || e != api.OK || f != api.OK {
		w.t.Errorf("P17.10: free are %d blocks and %d inodes, %d, %d, want %d and %d", b, i, e, f, blocks, inodes)
	}
}

func (w *world) room() (int, int) {
	w.t.Helper()
	b, e := space.Free(w.x, w.g)
	i, f := inode.Free(w.x, w.g)
	if e != api.OK || f != api.OK {
		w.t.Fatalf("what is free: %d, %d", e, f)
	}
	return b, i
}

func (w *world) leads(s string, n int) {
	w.t.Helper()
	if p, e := walk.To(w.x, w.g, s, false); p.Inode != n || e != api.OK {
		w.t.Errorf("%.60q leads to %d, %d, want %d", s, p.Inode, e, n)
	}
}

func (w *world) gone(s string) {
	w.t.Helper()
	if p, e := walk.To(w.x, w.g, s, false); e != api.ErrNone {
		w.t.Errorf("%.60q leads to %d, %d, want none", s, p.Inode, e)
	}
}

// cells holds the cells of a directory: name, place and inode of each, by the names.
func (w *world) cells(n int, l ...api.Entry) {
	w.t.Helper()
	if m, e := dir.List(w.x, w.g, n); !slices.Equal(m, l) || e != api.OK {
		w.t.Errorf("directory %d has %v, %d, want %v", n, m, e, l)
	}
}

func (w *world) list(n int) []api.Entry {
	w.t.Helper()
	l, e := dir.List(w.x, w.g, n)
	if e != api.OK {
		w.t.Fatalf("directory %d: %d", n, e)
	}
	return l
}

func (w *world) reads(n int, s string) {
	w.t.Helper()
	if b, e := file.Read(w.x, w.g, n, 0, api.MaxFile); b != s || e != api.OK {
		w.t.Errorf("inode %d has the bytes %.60q (%d), %d, want %.60q (%d)", n, b, len(b), e, s, len(s))
	}
}

func (w *world) writes(n, off int, s string) {
	w.t.Helper()
	if e := file.Write(w.x, w.g, n, off, s); e != api.OK {
		w.t.Fatalf("a write into inode %d: %d", n, e)
	}
}

func (w *world) cut(n, to int) {
	w.t.Helper()
	if e := file.Cut(w.x, w.g, n, to); e != api.OK {
		w.t.Fatalf("a cut of inode %d: %d", n, e)
	}
}

// fill takes blocks for a file till just so many are free: first those with tables, then one by one.
func (w *world) fill(n, left int) {
	w.t.Helper()
	blocks, _, e := bmap.All(w.x, w.g, w.record(n))
	if e != api.OK {
		w.t.Fatalf("the blocks of inode %d: %d", n, e)
	}
	had := map[int]bool{}
	for _, p := range blocks {
		had[p[0]] = true
	}
	b, _ := w.room()
	if b-left > 10 {
		w.writes(n, 10*size, rep("x", size))
		had[10] = true
	}
	if b-left > 139 {
		w.writes(n, 138*size, rep("x", size))
		had[138] = true
	}
	for k := range 266 {
		if b, _ := w.room(); b <= left {
			break
		}
		if !had[k] {
			w.writes(n, k*size, rep("x", size))
		}
	}
	if b, _ := w.room(); b != left {
		w.t.Fatalf("%d blocks are free, want %d", b, left)
	}
}

func (w *world) setRecord(n int, x api.Inode) {
	w.t.Helper()
	if e := inode.Put(w.x, w.g, n, x); e != api.OK {
		w.t.Fatalf("the record %v: %d", x, e)
	}
}

func (w *world) block(i int) []byte {
	w.t.Helper()
	b, e := w.x.Read(i)
	if e != api.OK || len(b) != size {
		w.t.Fatalf("block %d: %d", i, e)
	}
	return b
}

func (w *world) lay(i int, b []byte) {
	w.t.Helper()
	if e := w.x.Write(i, b); e != api.OK {
		w.t.Fatalf("a Write of block %d: %d", i, e)
	}
}

// turn changes a byte of a block.
func (w *world) turn(i, place int, to byte) {
	w.t.Helper()
	b := w.block(i)
	b[place] = to
	w.lay(i, b)
}

// noRecord makes an inode's bytes such that are no record.
func (w *world) noRecord(n int) {
	w.t.Helper()
	w.turn(w.g.Inodes+n/8, n%8*64, 9)
}

// stuff puts blocks from the disk's last one on down, with the bytes that they have, till so many more can be put.
func (w *world) stuff(room int) {
	w.t.Helper()
	for i := w.g.Blocks - 1; len(w.x.Written()) < api.LogMax-room; i-- {
		w.lay(i, w.block(i))
	}
}

// again commits what is put, and begins anew.
func (w *world) again() {
	w.t.Helper()
	if e := w.x.Commit(); e != api.OK {
		w.t.Fatalf("Commit: %d", e)
	}
	w.x = txn.Begin(w.d)
}

// image is all blocks as the transaction sees them.
func (w *world) image() []byte {
	w.t.Helper()
	b := make([]byte, 0, w.g.Blocks*size)
	for i := range w.g.Blocks {
		b = append(b, w.block(i)...)
	}
	return b
}

// right holds that what the transaction sees is a right file system with just these orphans.
func (w *world) right(orphans ...int) {
	w.t.Helper()
	f := find(w.g, w.image())
	if len(f.faults) > 0 {
		w.t.Errorf("P17.10: %v", f.faults)
	}
	if !slices.Equal(f.orphans, orphans) {
		w.t.Errorf("P17.10: the orphans are %v, want %v", f.orphans, orphans)
	}
	w.orphans(orphans...)
}

// rightCommitted holds the same of the disk behind a commit.
func (w *world) rightCommitted(orphans ...int) {
	w.t.Helper()
	w.again()
	if !bytes.Equal(w.image()[98*size:], w.d.Image()[98*size:]) {
		w.t.Errorf("P17.10: what is committed isn't what lasts")
	}
	w.right(orphans...)
}

// ends are what can be with a transaction's blocks: in reach, or the error that tells that they aren't.
var ends = map[string]api.Errno{"under way": api.OK, "down": api.ErrDown, "over": api.ErrOver}

func (w *world) end(how string) {
	switch how {
	case "down":
		w.d.Crash(nil)
	case "over":
		w.x.Abort()
	}
}

// noInodes are the edges of the numbers that inodes have, the ends of an int, and numbers that are right ones in their lower bytes.
func noInodes(g api.Geo) []int {
	return []int{math.MinInt, math.MinInt + 1, -1 << 32, -8, -1, 0, g.Count, g.Count + 1, 1 << 16, 1<<16 + 1, 1 << 32, 1<<32 + 2, math.MaxInt}
}

// noPaths are texts that path.Make doesn't take, with their errors.
var noPaths = map[string]api.Errno{
	"": api.ErrInval, "a": api.ErrInval, "a/b": api.ErrInval, "/.": api.ErrInval, "/..": api.ErrInval, "/a/.": api.ErrInval, "/a/..//": api.ErrInval,
	"/\x00": api.ErrInval, "/a\x00": api.ErrInval, "/a/\x00/b": api.ErrInval, rep("x", 1025): api.ErrInval, rep("/x", 40) + "\x00": api.ErrInval,
	"/" + rep("x", 28) + "/.": api.ErrInval, rep("/x", 33) + "/..": api.ErrInval,
	rep("/", 1025): api.ErrTooLong, "/" + rep("x", 28): api.ErrTooLong, "/a/" + rep("x", 28) + "/b": api.ErrTooLong, rep("/x", 33): api.ErrTooLong,
}

// noTexts are texts that path.Text doesn't take, with their errors.
var noTexts = map[string]api.Errno{
	"": api.ErrInval, "\x00": api.ErrInval, "a\x00": api.ErrInval, rep("x", 1025) + "\x00": api.ErrInval,
	rep("/", 1025): api.ErrTooLong, rep("x", 28): api.ErrTooLong, rep("x/", 33): api.ErrTooLong, "a/" + rep("x", 28): api.ErrTooLong, rep("../", 33): api.ErrTooLong,
}
