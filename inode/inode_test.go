package inode_test

import (
	"bytes"
	"encoding/binary"
	"fmt"
	"hash/crc32"
	"slices"
	"testing"

	"bole/adisk"
	"bole/api"
	"bole/geo"
	"bole/inode"
	"bole/txn"
)

const (
	size = api.BlockSize
	most = 4294967295 // of a block number
)

// Records that may be, with something in each of their fields.
var (
	aFile = api.Inode{Kind: 1, Links: 999, Size: 8459263, Direct: [10]int{101, 102, 103, 0, most, 1, 65536, 256, 16777216, 7}, One: 305419896, Two: most}
	aDir  = api.Inode{Kind: 2, Links: 65535, Size: 66048, Direct: [10]int{0, 1, 0, 2, 0, 3, 0, 4, 0, 5}, One: 9, Two: 10}
	aLink = api.Inode{Kind: 3, Links: 1, Size: 1024, Direct: [10]int{most, 127, 128, 129, 255, 256, 257, 65535, 65536, 65537}, One: 98, Two: 0}
)

var used = []api.Inode{aFile, aDir, aLink}

// Records that may not be, each by one thing.
var odd = []api.Inode{
	{Kind: 4, Links: 1, Size: 1},
	{Kind: -1},
	{Links: 1},
	{Kind: 1, Links: 1001},
	{Kind: 2, Links: 2, Size: 511},
	{Kind: 3, Links: 1},
	{Kind: 1, Two: -1},
	withNumber(aFile, 9, most+1),
}

// withNumber is a record with one number more: direct ones at 0 to 9, One at 10, Two at 11.
func withNumber(x api.Inode, at, n int) api.Inode {
	switch {
	case at < 10:
		x.Direct[at] = n
	case at == 10:
		x.One = n
	default:
		x.Two = n
	}
	return x
}

// plainBytes is a record's 64 bytes as the chapter's words lay them; of one that may be.
func plainBytes(x api.Inode) []byte {
	b := []byte{byte(x.Kind), 0}
	b = binary.LittleEndian.AppendUint16(b, uint16(x.Links))
	b = binary.LittleEndian.AppendUint32(b, uint32(x.Size))
	for _, n := range x.Direct {
		b = binary.LittleEndian.AppendUint32(b, uint32(n))
	}
	b = binary.LittleEndian.AppendUint32(b, uint32(x.One))
	b = binary.LittleEndian.AppendUint32(b, uint32(x.Two))
	return append(b, 0, 0, 0, 0, 0, 0, 0, 0)
}

// notRecord is 64 bytes that are none.
func notRecord() []byte {
	b := make([]byte, 64)
	b[0] = 9
	return b
}

func laid(t *testing.T, n int) api.Geo {
	t.Helper()
	g, e := geo.Of(n)
	if e != api.OK {
		t.Fatalf("a disk of %d blocks: %d", n, e)
	}
	return g
}

// world is a disk with a transaction on it.
type world struct {
	t *testing.T
	g api.Geo
	d *adisk.Disk
	x *txn.Txn
}

// on is a disk whose inode table is all zeros, but for these inodes' bytes; all bytes outside of the table are 7, and so are those of inode 0, which nothing may look at.
func on(t *testing.T, n int, records map[int][]byte) *world {
	t.Helper()
	g := laid(t, n)
	b := bytes.Repeat([]byte{7}, n*size)
	clear(b[g.Inodes*size+64 : g.Data*size])
	for i, record := range records {
		copy(b[g.Inodes*size+64*i:], record)
	}
	d, e := adisk.Open(b)
	if e != api.OK {
		t.Fatalf("a disk of %d bytes: %d", len(b), e)
	}
	return &world{t, g, d, txn.Begin(d)}
}

// filled is a table's records: these numbers' inodes are files.
func filled(from, to int) map[int][]byte {
	records := map[int][]byte{}
	for n := from; n <= to; n++ {
		records[n] = plainBytes(aFile)
	}
	return records
}

func want(t *testing.T, what string, e, code api.Errno) {
	t.Helper()
	if e != code {
		t.Errorf("%s: %d, want %d", what, e, code)
	}
}

func (w *world) get(what string, n int, x api.Inode) {
	w.t.Helper()
	if y, e := inode.Get(w.x, w.g, n); y != x || e != api.OK {
		w.t.Errorf("%s: Get(%d): %v, %d, want %v", what, n, y, e, x)
	}
}

func (w *world) noGet(what string, n int, code api.Errno) {
	w.t.Helper()
	if y, e := inode.Get(w.x, w.g, n); y != (api.Inode{}) || e != code {
		w.t.Errorf("%s: Get(%d): %v, %d, want %d", what, n, y, e, code)
	}
}

func (w *world) put(what string, n int, x api.Inode, code api.Errno) {
	w.t.Helper()
	if e := inode.Put(w.x, w.g, n, x); e != code {
		w.t.Errorf("%s: Put(%d, %v): %d, want %d", what, n, x, e, code)
	}
}

func (w *world) take(what string, x api.Inode, n int) {
	w.t.Helper()
	if m, e := inode.Take(w.x, w.g, x); m != n || e != api.OK {
		w.t.Errorf("%s: Take: %d, %d, want %d", what, m, e, n)
	}
}

func (w *world) noTake(what string, x api.Inode, code api.Errno) {
	w.t.Helper()
	if m, e := inode.Take(w.x, w.g, x); m != 0 || e != code {
		w.t.Errorf("%s: Take: %d, %d, want 0, %d", what, m, e, code)
	}
}

func (w *world) free(what string, n int) {
	w.t.Helper()
	if m, e := inode.Free(w.x, w.g); m != n || e != api.OK {
		w.t.Errorf("%s: Free: %d, %d, want %d", what, m, e, n)
	}
}

func (w *world) noFree(what string, code api.Errno) {
	w.t.Helper()
	if m, e := inode.Free(w.x, w.g); m != 0 || e != code {
		w.t.Errorf("%s: Free: %d, %d, want 0, %d", what, m, e, code)
	}
}

func (w *world) written(what string, nums ...int) {
	w.t.Helper()
	if l := w.x.Written(); !slices.Equal(l, nums) {
		w.t.Errorf("%s: Written: %v, want %v", what, l, nums)
	}
}

func (w *world) read(i int) []byte {
	w.t.Helper()
	b, e := w.x.Read(i)
	if e != api.OK || len(b) != size {
		w.t.Fatalf("Read(%d): %d", i, e)
	}
	return b
}

func (w *world) write(i int, b []byte) {
	w.t.Helper()
	if e := w.x.Write(i, b); e != api.OK {
		w.t.Fatalf("Write(%d): %d", i, e)
	}
}

// keep puts blocks with the bytes that they have, so that they can be read with the power out.
func (w *world) keep(nums ...int) {
	w.t.Helper()
	for _, i := range nums {
		w.write(i, w.read(i))
	}
}

// stuff puts so many of the last data blocks.
func (w *world) stuff(count int) {
	w.t.Helper()
	for k := range count {
		w.write(w.g.Blocks-1-k, bytes.Repeat([]byte{8}, size))
	}
}

// lay writes bytes into an inode's place in the table, past what inode asks.
func (w *world) lay(n int, record []byte) {
	w.t.Helper()
	i := w.g.Inodes + n/8
	b := w.read(i)
	copy(b[n%8*64:], record)
	w.write(i, b)
}

// sight is all that a transaction and its disk tell of themselves.
func (w *world) sight() string {
	m, e := w.x.Mark()
	writes, flushes := w.d.Steps()
	text := fmt.Sprint(m, e, w.x.Written(), w.x.Over(), w.d.Down(), writes, flushes, w.d.Pending())
	sum := crc32.NewIEEE()
	for i := range w.g.Blocks {
		b, e := w.x.Read(i)
		sum.Write(append(b, byte(e)))
	}
	return text + fmt.Sprintf(" %x %x", sum.Sum32(), crc32.ChecksumIEEE(w.d.Image()))
}

// still does something and holds that the transaction and its disk are as they were.
func (w *world) still(what string, does func()) {
	w.t.Helper()
	before := w.sight()
	does()
	if w.sight() != before {
		w.t.Errorf("%s: something has changed", what)
	}
}

// inodes are the numbers about which a table of so many has its edges: the first, those about the border of its blocks, the last.
func inodes(g api.Geo) []int {
	return []int{1, 2, 6, 7, 8, 9, 14, 15, g.Count - 9, g.Count - 8, g.Count - 2, g.Count - 1}
}
