package file_test

import (
	"bytes"
	"encoding/binary"
	"fmt"
	"hash/crc32"
	"math"
	"slices"
	"strings"
	"testing"

	"bole/adisk"
	"bole/api"
	"bole/bmap"
	"bole/file"
	"bole/geo"
	"bole/inode"
	"bole/space"
	"bole/txn"
)

const (
	size = api.BlockSize
	most = 8459264 // of a file's bytes
	last = 16521   // of its indices
)

// Records of each kind, without a block.
var (
	aFile = api.Inode{Kind: 1, Links: 1}
	aDir  = api.Inode{Kind: 2, Links: 2}
	aLink = api.Inode{Kind: 3, Links: 1, Size: 9}
)

func laid(t *testing.T, n int) api.Geo {
	t.Helper()
	g, e := geo.Of(n)
	if e != api.OK {
		t.Fatalf("a disk of %d blocks: %d", n, e)
	}
	return g
}

// withNumber is a record with one number more: direct ones at 0 to 9, One at 10, Two at 11.
func withNumber(x api.Inode, at, n int) api.Inode {
	switch {
	case at < 10:
		x.Direct[at] = n
	case at == 10:
		x.One = n
	default:
		x.Two = n
	}
	return x
}

func sized(x api.Inode, size int) api.Inode {
	x.Size = size
	return x
}

// table is a table's bytes: a number at each of these places.
func table(nums map[int]int) []byte {
	b := make([]byte, size)
	for at, n := range nums {
		binary.LittleEndian.PutUint32(b[4*at:], uint32(n))
	}
	return b
}

func filled(c byte) []byte { return bytes.Repeat([]byte{c}, size) }

// text is so many bytes, none of them zero, of which any piece of some length is to be told from others.
func text(count, seed int) string {
	b := make([]byte, count)
	for i := range b {
		b[i] = byte(1 + (i*7+i/251*13+seed*29)%255)
	}
	return string(b)
}

func zeros(count int) string { return strings.Repeat("\x00", count) }

// world is a disk with a transaction on it.
type world struct {
	t *testing.T
	g api.Geo
	d *adisk.Disk
	x *txn.Txn
}

// on is a disk on which just these data blocks are free, with these records and these blocks; all other inodes are free, all other data blocks hold the byte 7, and so does inode 0's record, which nothing may look at.
func on(t *testing.T, n int, free func(i int) bool, records map[int]api.Inode, blocks map[int][]byte) *world {
	t.Helper()
	g := laid(t, n)
	b := bytes.Repeat([]byte{7}, n*size)
	clear(b[g.Bitmap*size : g.Data*size])
	for k := range (g.Inodes - g.Bitmap) * 4096 {
		if k < g.Data || k >= n || !free(k) {
			b[g.Bitmap*size+k/8] |= 1 << (k % 8)
		}
	}
	copy(b[g.Inodes*size:], bytes.Repeat([]byte{7}, 64))
	for i, x := range records {
		raw, e := inode.Encode(x)
		if e != api.OK {
			t.Fatalf("the record %v: %d", x, e)
		}
		copy(b[g.Inodes*size+64*i:], raw)
	}
	for i, data := range blocks {
		copy(b[i*size:(i+1)*size], data)
	}
	d, e := adisk.Open(b)
	if e != api.OK {
		t.Fatalf("a disk of %d bytes: %d", len(b), e)
	}
	return &world{t, g, d, txn.Begin(d)}
}

// fresh is a disk of which all data is free: 1 is a directory, 2 a symbolic link, 5, 6 and 9 are empty files.
func fresh(t *testing.T, n int) *world {
	t.Helper()
	return on(t, n, all, map[int]api.Inode{1: aDir, 2: aLink, 5: aFile, 6: aFile, 9: aFile}, nil)
}

func none(int) bool { return false }

func all(int) bool { return true }

func only(nums ...int) func(i int) bool {
	return func(i int) bool { return slices.Contains(nums, i) }
}

func but(nums ...int) func(i int) bool {
	return func(i int) bool { return !slices.Contains(nums, i) }
}

func want(t *testing.T, what string, e, code api.Errno) {
	t.Helper()
	if e != code {
		t.Errorf("%s: %d, want %d", what, e, code)
	}
}

func (w *world) reads(what string, n, off, count int, s string) {
	w.t.Helper()
	if got, e := file.Read(w.x, w.g, n, off, count); got != s || e != api.OK {
		w.t.Errorf("%s: Read(%d, %d, %d): %.40q (%d bytes), %d, want %.40q (%d bytes)", what, n, off, count, got, len(got), e, s, len(s))
	}
}

func (w *world) noRead(what string, n, off, count int, code api.Errno) {
	w.t.Helper()
	if got, e := file.Read(w.x, w.g, n, off, count); got != "" || e != code {
		w.t.Errorf("%s: Read(%d, %d, %d): %.40q (%d bytes), %d, want %d", what, n, off, count, got, len(got), e, code)
	}
}

func (w *world) write(what string, n, off int, s string, code api.Errno) {
	w.t.Helper()
	if e := file.Write(w.x, w.g, n, off, s); e != code {
		w.t.Errorf("%s: Write(%d, %d, %d bytes): %d, want %d", what, n, off, len(s), e, code)
	}
}

func (w *world) cut(what string, n, to int, code api.Errno) {
	w.t.Helper()
	if e := file.Cut(w.x, w.g, n, to); e != code {
		w.t.Errorf("%s: Cut(%d, %d): %d, want %d", what, n, to, e, code)
	}
}

func (w *world) blocks(what string, n, count int) {
	w.t.Helper()
	if m, e := file.Blocks(w.x, w.g, n); m != count || e != api.OK {
		w.t.Errorf("%s: Blocks(%d): %d, %d, want %d", what, n, m, e, count)
	}
}

func (w *world) noBlocks(what string, n int, code api.Errno) {
	w.t.Helper()
	if m, e := file.Blocks(w.x, w.g, n); m != 0 || e != code {
		w.t.Errorf("%s: Blocks(%d): %d, %d, want 0, %d", what, n, m, e, code)
	}
}

// refused makes each of the four calls of an inode, of which all are to be refused alike, with nothing changed.
func (w *world) refused(what string, n int, code api.Errno) {
	w.t.Helper()
	w.still(what, func() {
		w.noRead("P12.1: "+what, n, 0, 1, code)
		w.write("P12.2: "+what, n, 0, "a", code)
		w.cut("P12.3: "+what, n, 1, code)
		w.noBlocks("P12.4: "+what, n, code)
	})
}

func (w *world) is(what string, n int, x api.Inode) {
	w.t.Helper()
	if y, e := inode.Get(w.x, w.g, n); y != x || e != api.OK {
		w.t.Errorf("%s: inode %d is %v, %d, want %v", what, n, y, e, x)
	}
}

func (w *world) record(n int) api.Inode {
	w.t.Helper()
	x, e := inode.Get(w.x, w.g, n)
	if e != api.OK {
		w.t.Fatalf("inode %d: %d", n, e)
	}
	return x
}

func (w *world) size(what string, n, size int) {
	w.t.Helper()
	if x := w.record(n); x.Size != size {
		w.t.Errorf("%s: inode %d has the size %d, want %d", what, n, x.Size, size)
	}
}

func (w *world) free(what string, count int) {
	w.t.Helper()
	if k, e := space.Free(w.x, w.g); k != count || e != api.OK {
		w.t.Errorf("%s: free are %d, %d, want %d", what, k, e, count)
	}
}

func (w *world) written(what string, nums ...int) {
	w.t.Helper()
	slices.Sort(nums)
	if l := w.x.Written(); !slices.Equal(l, slices.Compact(nums)) {
		w.t.Errorf("%s: Written: %v, want %v", what, l, slices.Compact(nums))
	}
}

func (w *world) block(i int) []byte {
	w.t.Helper()
	b, e := w.x.Read(i)
	if e != api.OK || len(b) != size {
		w.t.Fatalf("block %d: %d", i, e)
	}
	return b
}

func (w *world) holds(what string, i int, b []byte) {
	w.t.Helper()
	if !bytes.Equal(w.block(i), b) {
		w.t.Errorf("%s: block %d has other bytes", what, i)
	}
}

func (w *world) lay(i int, b []byte) {
	w.t.Helper()
	if e := w.x.Write(i, b); e != api.OK {
		w.t.Fatalf("a Write of block %d: %d", i, e)
	}
}

// keep puts blocks with the bytes that they have, so that they can be read with the power out.
func (w *world) keep(nums ...int) {
	w.t.Helper()
	for _, i := range nums {
		w.lay(i, w.block(i))
	}
}

// stuff puts blocks from the disk's last one on down, with the bytes that they have, till so many more can be put.
func (w *world) stuff(room int) {
	w.t.Helper()
	for i := w.g.Blocks - 1; len(w.x.Written()) < api.LogMax-room; i-- {
		w.keep(i)
	}
}

// again commits what is put, and begins anew.
func (w *world) again() {
	w.t.Helper()
	if e := w.x.Commit(); e != api.OK {
		w.t.Fatalf("Commit: %d", e)
	}
	w.x = txn.Begin(w.d)
}

// sight is all that a transaction and its disk tell of themselves.
func (w *world) sight() string {
	m, e := w.x.Mark()
	writes, flushes := w.d.Steps()
	seen := fmt.Sprint(m, e, w.x.Written(), w.x.Over(), w.d.Down(), writes, flushes, w.d.Pending())
	sum := crc32.NewIEEE()
	for i := range w.g.Blocks {
		b, e := w.x.Read(i)
		sum.Write(append(b, byte(e)))
	}
	return seen + fmt.Sprintf(" %x %x", sum.Sum32(), crc32.ChecksumIEEE(w.d.Image()))
}

// still does something and holds that the transaction and its disk are as they were.
func (w *world) still(what string, does func()) {
	w.t.Helper()
	before := w.sight()
	does()
	if w.sight() != before {
		w.t.Errorf("%s: something has changed", what)
	}
}

// ends are what can be with a transaction's blocks: in reach, or the error that tells that they aren't.
var ends = map[string]api.Errno{"under way": api.OK, "down": api.ErrDown, "over": api.ErrOver}

func (w *world) end(how string) {
	switch how {
	case "down":
		w.d.Crash(nil)
	case "over":
		w.x.Abort()
	}
}

// sparse is inode 5 as a file of a size with blocks at some indices, committed, beside the plain row of its bytes.
type sparse struct {
	*world
	row    []byte
	at     map[int]int // which block an index has
	tables []int
}

// indices are those at which the way to a block begins, ends or turns.
var indices = []int{0, 1, 3, 8, 9, 10, 11, 136, 137, 138, 139, 265, 266, 16393, 16394, 16520, last}

// thin is such a file, laid past the calls that are tried: its blocks are full of bytes up to its size, zeros behind it.
func thin(t *testing.T, n, length int, indices ...int) *sparse {
	t.Helper()
	s := &sparse{fresh(t, n), make([]byte, length), map[int]int{}, nil}
	x := sized(aFile, length)
	for _, k := range indices {
		if k*size >= length {
			continue
		}
		y, i, e := bmap.Add(s.x, s.g, x, k)
		if e != api.OK {
			t.Fatalf("a block at %d: %d", k, e)
		}
		x = y
		s.at[k] = i
		copy(s.row[k*size:], text(size, k+1))
		b := make([]byte, size)
		copy(b, s.row[k*size:])
		s.lay(i, b)
	}
	if e := inode.Put(s.x, s.g, 5, x); e != api.OK {
		t.Fatalf("the record %v: %d", x, e)
	}
	_, s.tables, _ = bmap.All(s.x, s.g, x)
	s.again()
	return s
}

// piece is the bytes from off on, so many of them or up to the end.
func (s *sparse) piece(off, count int) string {
	if off >= len(s.row) {
		return ""
	}
	return string(s.row[off:][:min(count, len(s.row)-off)])
}

// whole holds that all bytes of the file are those of the row.
func (s *sparse) whole(what string) {
	s.t.Helper()
	s.reads(what, 5, 0, math.MaxInt, string(s.row))
	s.size(what, 5, len(s.row))
}

// over writes into the row as Write is to write into the file.
func (s *sparse) over(off int, text string) {
	if end := off + len(text); end > len(s.row) && text != "" {
		s.row = append(s.row, make([]byte, end-len(s.row))...)
	}
	copy(s.row[min(off, len(s.row)):], text)
}
