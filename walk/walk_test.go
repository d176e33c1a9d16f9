package walk_test

import (
	"bytes"
	"encoding/binary"
	"fmt"
	"hash/crc32"
	"math"
	"slices"
	"strings"
	"testing"

	"bole/adisk"
	"bole/api"
	"bole/dir"
	"bole/file"
	"bole/geo"
	"bole/inode"
	"bole/txn"
	"bole/walk"
)

const size = api.BlockSize

func rep(s string, n int) string { return strings.Repeat(s, n) }

// thing is an inode as it is laid on a disk past the calls: its record, and its bytes, in blocks of its own.
type thing struct {
	x api.Inode
	b []byte
}

func has(name string, inode int) api.Entry { return api.Entry{Name: name, Inode: inode} }

// withCell is b, copied, with a cell that is taken, of the words of chapter 14; an inode of 0 frees it.
func withCell(b []byte, place int, c api.Entry) []byte {
	now := bytes.Clone(b)
	raw := make([]byte, 32)
	if c.Inode != 0 {
		binary.LittleEndian.PutUint32(raw, uint32(c.Inode))
		raw[4] = byte(len(c.Name))
		copy(raw[5:], c.Name)
	}
	copy(now[32*place:], raw)
	return now
}

// folder is a directory with these names, in this order of places; an inode of 0 leaves a cell free.
func folder(l ...api.Entry) thing {
	b := make([]byte, (len(l)+15)/16*size)
	for place, c := range l {
		b = withCell(b, place, c)
	}
	return thing{api.Inode{Kind: 2, Links: 2, Size: len(b)}, b}
}

func plainFile(s string) thing {
	return thing{api.Inode{Kind: 1, Links: 1, Size: len(s)}, []byte(s)}
}

func linkTo(s string) thing {
	return thing{api.Inode{Kind: 3, Links: 1, Size: len(s)}, []byte(s)}
}

// at is the block of a thing's bytes at an index, on a disk of 1024 blocks: 128 inodes, of which each has up to seven.
func at(n, index int) int { return 115 + 128*index + n }

// world is a disk with a transaction on it.
type world struct {
	t *testing.T
	g api.Geo
	d *adisk.Disk
	x *txn.Txn
}

// on is a disk with these bytes and a right bitmap.
func on(t *testing.T, n int, lay func(g api.Geo, b []byte)) *world {
	t.Helper()
	g, e := geo.Of(n)
	if e != api.OK {
		t.Fatalf("a disk of %d blocks: %d", n, e)
	}
	b := make([]byte, n*size)
	for k := range (g.Inodes - g.Bitmap) * 4096 {
		if k < g.Data || k >= n {
			b[g.Bitmap*size+k/8] |= 1 << (k % 8)
		}
	}
	lay(g, b)
	d, e := adisk.Open(b)
	if e != api.OK {
		t.Fatalf("a disk of %d bytes: %d", len(b), e)
	}
	return &world{t, g, d, txn.Begin(d)}
}

// laid is a disk of 1024 blocks with these things by their numbers; all other inodes are free.
func laid(t *testing.T, things map[int]thing) *world {
	t.Helper()
	return on(t, 1024, func(g api.Geo, b []byte) {
		for n, o := range things {
			for index, part := range slices.Collect(slices.Chunk(o.b, size)) {
				copy(b[at(n, index)*size:], part)
				if o.x.Direct[index] == 0 {
					o.x.Direct[index] = at(n, index)
				}
			}
			raw, e := inode.Encode(o.x)
			if e != api.OK {
				t.Fatalf("the record %v: %d", o.x, e)
			}
			copy(b[g.Inodes*size+64*n:], raw)
		}
	})
}

// fresh is a disk behind mkfs.
func fresh(t *testing.T, n int) *world {
	t.Helper()
	w := on(t, n, func(g api.Geo, b []byte) {
		raw, _ := inode.Encode(api.Inode{Kind: 2, Links: 2})
		copy(b[g.Inodes*size+64:], raw)
	})
	return w
}

// put makes a thing in a directory, by the calls of the layers below: its number.
func (w *world) put(in int, name string, o thing) int {
	w.t.Helper()
	n, e := inode.Take(w.x, w.g, o.x)
	if e == api.OK {
		e = file.Write(w.x, w.g, n, 0, string(o.b))
	}
	if e == api.OK {
		e = dir.Add(w.x, w.g, in, name, n)
	}
	if e != api.OK {
		w.t.Fatalf("%s in %d: %d", name, in, e)
	}
	return n
}

// again commits what is put, and begins anew.
func (w *world) again() {
	w.t.Helper()
	if e := w.x.Commit(); e != api.OK {
		w.t.Fatalf("Commit: %d", e)
	}
	w.x = txn.Begin(w.d)
}

// example is the chapter's disk.
func example(t *testing.T) *world {
	t.Helper()
	w := fresh(t, 128)
	w.put(1, "a", folder())
	w.put(2, "b", folder())
	w.put(3, "f", plainFile(""))
	w.put(1, "l", linkTo("a/b"))
	w.put(2, "up", linkTo(".."))
	w.put(1, "loop", linkTo("/loop"))
	w.put(3, "top", linkTo("/"))
	return w
}

func place(name string, inode int, chain ...int) walk.Place {
	return walk.Place{Chain: chain, Name: name, Inode: inode}
}

// itself is the place of the directory at a row's end.
func itself(chain ...int) walk.Place { return place("", chain[len(chain)-1], chain...) }

func same(p, q walk.Place) bool {
	return p.Name == q.Name && p.Inode == q.Inode && slices.Equal(p.Chain, q.Chain)
}

func want(t *testing.T, what string, e, code api.Errno) {
	t.Helper()
	if e != code {
		t.Errorf("%s: %d, want %d", what, e, code)
	}
}

// toward asks To, with follow or without.
func (w *world) toward(s string, follow bool, p walk.Place, code api.Errno) {
	w.t.Helper()
	if q, e := walk.To(w.x, w.g, s, follow); !same(q, p) || e != code {
		w.t.Errorf("P16.1: To(%.60q, %t): %v, %d, want %v, %d", s, follow, q, e, p, code)
	}
}

// to asks To, the same with follow and without.
func (w *world) to(s string, p walk.Place) {
	w.t.Helper()
	w.toward(s, true, p, api.OK)
	w.toward(s, false, p, api.OK)
}

func (w *world) noTo(s string, code api.Errno) {
	w.t.Helper()
	w.toward(s, true, walk.Place{}, code)
	w.toward(s, false, walk.Place{}, code)
}

func (w *world) make(s string, p walk.Place) {
	w.t.Helper()
	if q, e := walk.Make(w.x, w.g, s); !same(q, p) || e != api.OK {
		w.t.Errorf("P16.2: Make(%.60q): %v, %d, want %v", s, q, e, p)
	}
}

func (w *world) noMake(s string, code api.Errno) {
	w.t.Helper()
	if q, e := walk.Make(w.x, w.g, s); !same(q, walk.Place{}) || e != code {
		w.t.Errorf("P16.2: Make(%.60q): %v, %d, want none, %d", s, q, e, code)
	}
}

func (w *world) height(what string, n, levels int) {
	w.t.Helper()
	if h, e := walk.Height(w.x, w.g, n); h != levels || e != api.OK {
		w.t.Errorf("P16.3: %s: Height(%d): %d, %d, want %d", what, n, h, e, levels)
	}
}

func (w *world) noHeight(what string, n int, code api.Errno) {
	w.t.Helper()
	if h, e := walk.Height(w.x, w.g, n); h != 0 || e != code {
		w.t.Errorf("P16.3: %s: Height(%d): %d, %d, want 0, %d", what, n, h, e, code)
	}
}

func (w *world) setRecord(n int, x api.Inode) {
	w.t.Helper()
	if e := inode.Put(w.x, w.g, n, x); e != api.OK {
		w.t.Fatalf("the record %v: %d", x, e)
	}
}

func (w *world) record(n int) api.Inode {
	w.t.Helper()
	x, e := inode.Get(w.x, w.g, n)
	if e != api.OK {
		w.t.Fatalf("inode %d: %d", n, e)
	}
	return x
}

func (w *world) block(i int) []byte {
	w.t.Helper()
	b, e := w.x.Read(i)
	if e != api.OK || len(b) != size {
		w.t.Fatalf("block %d: %d", i, e)
	}
	return b
}

func (w *world) lay(i int, b []byte) {
	w.t.Helper()
	if e := w.x.Write(i, b); e != api.OK {
		w.t.Fatalf("a Write of block %d: %d", i, e)
	}
}

// noRecord makes an inode's bytes such that are no record.
func (w *world) noRecord(n int) {
	w.t.Helper()
	b := w.block(w.g.Inodes + n/8)
	b[n%8*64] = 9
	w.lay(w.g.Inodes+n/8, b)
}

// sight is all that a transaction and its disk tell of themselves.
func (w *world) sight() string {
	m, e := w.x.Mark()
	writes, flushes := w.d.Steps()
	seen := fmt.Sprint(m, e, w.x.Written(), w.x.Over(), w.d.Down(), writes, flushes, w.d.Pending())
	sum := crc32.NewIEEE()
	for i := range w.g.Blocks {
		b, e := w.x.Read(i)
		sum.Write(append(b, byte(e)))
	}
	return seen + fmt.Sprintf(" %x %x", sum.Sum32(), crc32.ChecksumIEEE(w.d.Image()))
}

// still does something and holds that the transaction and its disk are as they were.
func (w *world) still(does func()) {
	w.t.Helper()
	before := w.sight()
	does()
	if w.sight() != before {
		w.t.Errorf("P16.5: something has changed")
	}
}

// ends are what can be with a transaction's blocks: in reach, or the error that tells that they aren't.
var ends = map[string]api.Errno{"under way": api.OK, "down": api.ErrDown, "over": api.ErrOver}

func (w *world) end(how string) {
	switch how {
	case "down":
		w.d.Crash(nil)
	case "over":
		w.x.Abort()
	}
}

// noInodes are the edges of the numbers that inodes have, the ends of an int, and numbers that are right ones in their lower bytes.
func noInodes(g api.Geo) []int {
	return []int{math.MinInt, math.MinInt + 1, -1 << 32, -8, -1, 0, g.Count, g.Count + 1, 1 << 16, 1<<16 + 1, 1 << 32, 1<<32 + 1, math.MaxInt}
}

// noPaths are texts that path.Parse doesn't take, with their errors.
var noPaths = map[string]api.Errno{
	"": api.ErrInval, "a": api.ErrInval, "a/b": api.ErrInval, ".": api.ErrInval, "..": api.ErrInval, "./": api.ErrInval,
	"/\x00": api.ErrInval, "/a\x00": api.ErrInval, "/a/\x00/b": api.ErrInval, "\x00/a": api.ErrInval, " /a": api.ErrInval,
	rep("x", 1025): api.ErrInval, rep("/", 1024) + "\x00": api.ErrInval, rep("/x", 40) + "\x00": api.ErrInval,
	rep("/", 1025): api.ErrTooLong, rep("/.", 513): api.ErrTooLong, "/" + rep("x", 28): api.ErrTooLong, "/a/" + rep("x", 28) + "/b": api.ErrTooLong,
	rep("/x", 33): api.ErrTooLong, rep("/..", 33): api.ErrTooLong, rep("/./a", 33): api.ErrTooLong, "/x/" + rep("y", 300): api.ErrTooLong,
}
