package dir_test

import (
	"bytes"
	"encoding/binary"
	"fmt"
	"hash/crc32"
	"math"
	"slices"
	"strings"
	"testing"

	"bole/adisk"
	"bole/api"
	"bole/bmap"
	"bole/dir"
	"bole/geo"
	"bole/inode"
	"bole/space"
	"bole/txn"
)

const (
	size = api.BlockSize
	most = 8459264 // of a directory's bytes
)

// Records of each kind, without a block.
var (
	aFile = api.Inode{Kind: 1, Links: 1}
	aDir  = api.Inode{Kind: 2, Links: 2}
	aLink = api.Inode{Kind: 3, Links: 1, Size: 9}
)

func rep(s string, n int) string { return strings.Repeat(s, n) }

// withNumber is a record with one number more: direct ones at 0 to 9, One at 10, Two at 11.
func withNumber(x api.Inode, at, n int) api.Inode {
	switch {
	case at < 10:
		x.Direct[at] = n
	case at == 10:
		x.One = n
	default:
		x.Two = n
	}
	return x
}

func sized(x api.Inode, size int) api.Inode {
	x.Size = size
	return x
}

// direct is a directory of which each index has one of these numbers, all in its record.
func direct(nums ...int) api.Inode {
	x := sized(aDir, size*len(nums))
	copy(x.Direct[:], nums)
	return x
}

// table is a table's bytes: a number at each of these places.
func table(nums map[int]int) []byte {
	b := make([]byte, size)
	for at, n := range nums {
		binary.LittleEndian.PutUint32(b[4*at:], uint32(n))
	}
	return b
}

// every is a table that has one number at all its places.
func every(n int) []byte {
	nums := map[int]int{}
	for at := range 128 {
		nums[at] = n
	}
	return table(nums)
}

func cell(place int, name string, inode int) api.Entry {
	return api.Entry{Place: place, Name: name, Inode: inode}
}

// with is b, copied, with a cell that is taken, of the words of chapter 14; an inode of 0 frees it.
func with(b []byte, c api.Entry) []byte {
	now := bytes.Clone(b)
	raw := make([]byte, 32)
	if c.Inode != 0 {
		binary.LittleEndian.PutUint32(raw, uint32(c.Inode))
		raw[4] = byte(len(c.Name))
		copy(raw[5:], c.Name)
	}
	copy(now[32*c.Place:], raw)
	return now
}

// blockOf is the bytes of a block that has these cells.
func blockOf(l ...api.Entry) []byte {
	b := make([]byte, size)
	for _, c := range l {
		b = with(b, c)
	}
	return b
}

// name is one of many names, which rise with their numbers.
func name(i int) string { return fmt.Sprintf("n%05d", i) }

// row is so many cells with names, from a place on.
func row(from, count int) []api.Entry {
	var l []api.Entry
	for i := range count {
		l = append(l, cell(from+i, name(from+i), 1+(from+i)%15))
	}
	return l
}

// full is the bytes of the block at an index, with sixteen names.
func full(index int) []byte {
	l := row(16*index, 16)
	for i := range l {
		l[i].Place = i
	}
	return blockOf(l...)
}

// wrongCells is a block's bytes whose last cell can't be.
func wrongCells(b []byte) []byte {
	now := bytes.Clone(b)
	clear(now[480:])
	now[511] = 1
	return now
}

// world is a disk with a transaction on it.
type world struct {
	t *testing.T
	g api.Geo
	d *adisk.Disk
	x *txn.Txn
}

// on is a disk on which just these data blocks are free, with these records and these blocks; all other inodes are free, all other data blocks hold the byte 7, and so does inode 0's record, which nothing may look at.
func on(t *testing.T, n int, free func(i int) bool, records map[int]api.Inode, blocks map[int][]byte) *world {
	t.Helper()
	g, e := geo.Of(n)
	if e != api.OK {
		t.Fatalf("a disk of %d blocks: %d", n, e)
	}
	b := bytes.Repeat([]byte{7}, n*size)
	clear(b[g.Bitmap*size : g.Data*size])
	for k := range (g.Inodes - g.Bitmap) * 4096 {
		if k < g.Data || k >= n || !free(k) {
			b[g.Bitmap*size+k/8] |= 1 << (k % 8)
		}
	}
	copy(b[g.Inodes*size:], bytes.Repeat([]byte{7}, 64))
	for i, x := range records {
		raw, e := inode.Encode(x)
		if e != api.OK {
			t.Fatalf("the record %v: %d", x, e)
		}
		copy(b[g.Inodes*size+64*i:], raw)
	}
	for i, data := range blocks {
		copy(b[i*size:(i+1)*size], data)
	}
	d, e := adisk.Open(b)
	if e != api.OK {
		t.Fatalf("a disk of %d bytes: %d", len(b), e)
	}
	return &world{t, g, d, txn.Begin(d)}
}

// fresh is a disk of which all data is free: 1, 2 and 9 are empty directories, 3 is a file, 4 a symbolic link.
func fresh(t *testing.T, n int) *world {
	t.Helper()
	return on(t, n, all, map[int]api.Inode{1: aDir, 2: aDir, 3: aFile, 4: aLink, 9: aDir}, nil)
}

func none(int) bool { return false }

func all(int) bool { return true }

func only(nums ...int) func(i int) bool {
	return func(i int) bool { return slices.Contains(nums, i) }
}

// build lays directory n past the calls that are tried: so many indices, of which those have a block that have one of these cells; it is committed.
func (w *world) build(n, blocks int, l ...api.Entry) {
	w.t.Helper()
	x := sized(aDir, blocks*size)
	bytes := map[int][]byte{}
	for _, c := range l {
		k := c.Place / 16
		if bytes[k] == nil {
			bytes[k] = make([]byte, size)
		}
		c.Place %= 16
		bytes[k] = with(bytes[k], c)
	}
	for k := range blocks {
		if bytes[k] == nil {
			continue
		}
		y, i, e := bmap.Add(w.x, w.g, x, k)
		if e != api.OK {
			w.t.Fatalf("a block at %d: %d", k, e)
		}
		x = y
		w.lay(i, bytes[k])
	}
	w.setRecord(n, x)
	w.again()
}

func (w *world) setRecord(n int, x api.Inode) {
	w.t.Helper()
	if e := inode.Put(w.x, w.g, n, x); e != api.OK {
		w.t.Fatalf("the record %v: %d", x, e)
	}
}

func want(t *testing.T, what string, e, code api.Errno) {
	t.Helper()
	if e != code {
		t.Errorf("%s: %d, want %d", what, e, code)
	}
}

func (w *world) find(what string, n int, name string, has int) {
	w.t.Helper()
	if i, e := dir.Find(w.x, w.g, n, name); i != has || e != api.OK {
		w.t.Errorf("P15.1: %s: Find(%d, %q): %d, %d, want %d", what, n, name, i, e, has)
	}
}

func (w *world) noFind(what string, n int, name string, code api.Errno) {
	w.t.Helper()
	if i, e := dir.Find(w.x, w.g, n, name); i != 0 || e != code {
		w.t.Errorf("P15.1: %s: Find(%d, %q): %d, %d, want 0, %d", what, n, name, i, e, code)
	}
}

func (w *world) add(what string, n int, name string, inode int, code api.Errno) {
	w.t.Helper()
	if e := dir.Add(w.x, w.g, n, name, inode); e != code {
		w.t.Errorf("P15.2: %s: Add(%d, %q, %d): %d, want %d", what, n, name, inode, e, code)
	}
}

func (w *world) remove(what string, n int, name string, had int) {
	w.t.Helper()
	if i, e := dir.Remove(w.x, w.g, n, name); i != had || e != api.OK {
		w.t.Errorf("P15.3: %s: Remove(%d, %q): %d, %d, want %d", what, n, name, i, e, had)
	}
}

func (w *world) noRemove(what string, n int, name string, code api.Errno) {
	w.t.Helper()
	if i, e := dir.Remove(w.x, w.g, n, name); i != 0 || e != code {
		w.t.Errorf("P15.3: %s: Remove(%d, %q): %d, %d, want 0, %d", what, n, name, i, e, code)
	}
}

func (w *world) replace(what string, n int, name string, inode, had int) {
	w.t.Helper()
	if i, e := dir.Replace(w.x, w.g, n, name, inode); i != had || e != api.OK {
		w.t.Errorf("P15.4: %s: Replace(%d, %q, %d): %d, %d, want %d", what, n, name, inode, i, e, had)
	}
}

func (w *world) noReplace(what string, n int, name string, inode int, code api.Errno) {
	w.t.Helper()
	if i, e := dir.Replace(w.x, w.g, n, name, inode); i != 0 || e != code {
		w.t.Errorf("P15.4: %s: Replace(%d, %q, %d): %d, %d, want 0, %d", what, n, name, inode, i, e, code)
	}
}

// short is cells as a message tells them: not all of many.
func short(l []api.Entry) string {
	s := fmt.Sprintf("%d cells:", len(l))
	for i, c := range l {
		if i < 6 || i >= len(l)-6 {
			s += fmt.Sprintf(" {%d %q %d}", c.Place, c.Name, c.Inode)
		}
	}
	return s
}

// list asks List and Size.
func (w *world) list(what string, n int, cells ...api.Entry) {
	w.t.Helper()
	if l, e := dir.List(w.x, w.g, n); !slices.Equal(l, cells) || e != api.OK {
		w.t.Errorf("P15.5: %s: List(%d): %s, %d, want %s", what, n, short(l), e, short(cells))
	}
	if k, e := dir.Size(w.x, w.g, n); k != len(cells) || e != api.OK {
		w.t.Errorf("P15.5: %s: Size(%d): %d, %d, want %d", what, n, k, e, len(cells))
	}
}

func (w *world) noList(what string, n int, code api.Errno) {
	w.t.Helper()
	if l, e := dir.List(w.x, w.g, n); len(l) != 0 || e != code {
		w.t.Errorf("P15.5: %s: List(%d): %s, %d, want none, %d", what, n, short(l), e, code)
	}
	if k, e := dir.Size(w.x, w.g, n); k != 0 || e != code {
		w.t.Errorf("P15.5: %s: Size(%d): %d, %d, want 0, %d", what, n, k, e, code)
	}
}

// byName makes the four calls that take a name, of which all are to be refused alike, with nothing changed.
func (w *world) byName(what string, n int, name string, inode int, code api.Errno) {
	w.t.Helper()
	w.still(what, func() {
		w.noFind(what, n, name, code)
		w.add(what, n, name, inode, code)
		w.noRemove(what, n, name, code)
		w.noReplace(what, n, name, inode, code)
	})
}

// refused makes each of the six calls, likewise.
func (w *world) refused(what string, n int, name string, inode int, code api.Errno) {
	w.t.Helper()
	w.byName(what, n, name, inode, code)
	w.still(what, func() { w.noList(what, n, code) })
}

func (w *world) is(what string, n int, x api.Inode) {
	w.t.Helper()
	if y, e := inode.Get(w.x, w.g, n); y != x || e != api.OK {
		w.t.Errorf("%s: inode %d is %v, %d, want %v", what, n, y, e, x)
	}
}

func (w *world) record(n int) api.Inode {
	w.t.Helper()
	x, e := inode.Get(w.x, w.g, n)
	if e != api.OK {
		w.t.Fatalf("inode %d: %d", n, e)
	}
	return x
}

// blocks holds how many blocks a directory has, all of them at the first indices, and that its size is theirs.
func (w *world) blocks(what string, n, count int) {
	w.t.Helper()
	x := w.record(n)
	l, _, e := bmap.All(w.x, w.g, x)
	if x.Size != count*size || len(l) != count || e != api.OK {
		w.t.Errorf("%s: directory %d has the size %d and %d blocks, %d, want %d blocks", what, n, x.Size, len(l), e, count)
	}
	for i, p := range l {
		if p[0] != i {
			w.t.Errorf("%s: directory %d has a hole at %d", what, n, i)
		}
	}
}

func (w *world) free(what string, count int) {
	w.t.Helper()
	if k, e := space.Free(w.x, w.g); k != count || e != api.OK {
		w.t.Errorf("%s: free are %d, %d, want %d", what, k, e, count)
	}
}

func (w *world) written(what string, nums ...int) {
	w.t.Helper()
	slices.Sort(nums)
	if l := w.x.Written(); !slices.Equal(l, slices.Compact(nums)) {
		w.t.Errorf("%s: Written: %v, want %v", what, l, slices.Compact(nums))
	}
}

func (w *world) block(i int) []byte {
	w.t.Helper()
	b, e := w.x.Read(i)
	if e != api.OK || len(b) != size {
		w.t.Fatalf("block %d: %d", i, e)
	}
	return b
}

func (w *world) holds(what string, i int, b []byte) {
	w.t.Helper()
	if !bytes.Equal(w.block(i), b) {
		w.t.Errorf("%s: block %d has other bytes", what, i)
	}
}

func (w *world) lay(i int, b []byte) {
	w.t.Helper()
	if e := w.x.Write(i, b); e != api.OK {
		w.t.Fatalf("a Write of block %d: %d", i, e)
	}
}

// keep puts blocks with the bytes that they have, so that they can be read with the power out.
func (w *world) keep(nums ...int) {
	w.t.Helper()
	for _, i := range nums {
		w.lay(i, w.block(i))
	}
}

// stuff puts blocks from the disk's last one on down, with the bytes that they have, till so many more can be put.
func (w *world) stuff(room int) {
	w.t.Helper()
	for i := w.g.Blocks - 1; len(w.x.Written()) < api.LogMax-room; i-- {
		w.keep(i)
	}
}

// again commits what is put, and begins anew.
func (w *world) again() {
	w.t.Helper()
	if e := w.x.Commit(); e != api.OK {
		w.t.Fatalf("Commit: %d", e)
	}
	w.x = txn.Begin(w.d)
}

// sight is all that a transaction and its disk tell of themselves.
func (w *world) sight() string {
	m, e := w.x.Mark()
	writes, flushes := w.d.Steps()
	seen := fmt.Sprint(m, e, w.x.Written(), w.x.Over(), w.d.Down(), writes, flushes, w.d.Pending())
	sum := crc32.NewIEEE()
	for i := range w.g.Blocks {
		b, e := w.x.Read(i)
		sum.Write(append(b, byte(e)))
	}
	return seen + fmt.Sprintf(" %x %x", sum.Sum32(), crc32.ChecksumIEEE(w.d.Image()))
}

// still does something and holds that the transaction and its disk are as they were.
func (w *world) still(what string, does func()) {
	w.t.Helper()
	before := w.sight()
	does()
	if w.sight() != before {
		w.t.Errorf("%s: something has changed", what)
	}
}

// ends are what can be with a transaction's blocks: in reach, or the error that tells that they aren't.
var ends = map[string]api.Errno{"under way": api.OK, "down": api.ErrDown, "over": api.ErrOver}

func (w *world) end(how string) {
	switch how {
	case "down":
		w.d.Crash(nil)
	case "over":
		w.x.Abort()
	}
}

// names are such as may be: of each length, and odd ones.
func names() []string {
	l := []string{"...", "....", "..a", ".a", "a.", "a..", "-", " ", "\xff", "\x80", "\x01", "\x7f", "ä", "a\\b", "\n", rep(".", 27), rep("\xff", 27), rep("\x80", 26)}
	for n := 1; n <= 27; n++ {
		l = append(l, rep("x", n))
	}
	return l
}

// noNames are none, the dots, such with a slash or a zero byte, and such that are too long.
func noNames() []string {
	return []string{
		"", ".", "..", "/", "\x00", "a/b", "a\x00", "/a", "a/", "\x00a", "../", "./", "../..",
		rep("x", 26) + "/", rep("x", 26) + "\x00", rep("x", 27) + "/", rep("x", 27) + "\x00",
		rep("x", 28), rep("x", 29), rep("x", 32), rep("x", 255), rep("x", 256), rep("x", 257), rep("x", 283), rep("x", 1<<16+1), rep(".", 28), rep("\x00", 27),
	}
}

// noInodes are the edges of the numbers that inodes have, the ends of an int, and numbers that are right ones in their lower bytes.
func noInodes(g api.Geo) []int {
	return []int{math.MinInt, math.MinInt + 1, -1 << 32, -8, -1, 0, g.Count, g.Count + 1, 99, 1 << 16, 1<<16 + 1, 1 << 32, 1<<32 + 1, math.MaxInt}
}
