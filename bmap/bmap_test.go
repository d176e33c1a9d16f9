package bmap_test

import (
	"bytes"
	"encoding/binary"
	"fmt"
	"hash/crc32"
	"math"
	"slices"
	"testing"

	"bole/adisk"
	"bole/api"
	"bole/bmap"
	"bole/geo"
	"bole/space"
	"bole/txn"
)

const (
	size = api.BlockSize
	last = 16521
)

// edges are indices at which a way begins, ends or turns.
var edges = []int{0, 1, 8, 9, 10, 11, 136, 137, 138, 139, 264, 265, 266, 267, 393, 394, 16393, 16394, 16520, last}

var empty = api.Inode{Kind: 77, Links: -5, Size: math.MaxInt}

func laid(t *testing.T, n int) api.Geo {
	t.Helper()
	g, e := geo.Of(n)
	if e != api.OK {
		t.Fatalf("a disk of %d blocks: %d", n, e)
	}
	return g
}

// holding is a table's bytes: a number at each of these places.
func holding(nums map[int]int) []byte {
	b := make([]byte, size)
	for at, n := range nums {
		binary.LittleEndian.PutUint32(b[4*at:], uint32(n))
	}
	return b
}

// alike is a table with one number at all its places.
func alike(n int) []byte {
	nums := map[int]int{}
	for at := range 128 {
		nums[at] = n
	}
	return holding(nums)
}

// world is a disk with a transaction on it.
type world struct {
	t *testing.T
	g api.Geo
	d *adisk.Disk
	x *txn.Txn
}

// begun is a disk on which just these data blocks are free, with these bytes in blocks of it; those of the other data blocks are 7.
func begun(t *testing.T, n int, free func(i int) bool, blocks map[int][]byte) *world {
	t.Helper()
	g := laid(t, n)
	b := bytes.Repeat([]byte{7}, n*size)
	clear(b[:g.Data*size])
	for k := range (g.Inodes - g.Bitmap) * 4096 {
		if k < g.Data || k >= n || !free(k) {
			b[g.Bitmap*size+k/8] |= 1 << (k % 8)
		}
	}
	for i, data := range blocks {
		copy(b[i*size:(i+1)*size], data)
	}
	d, e := adisk.Open(b)
	if e != api.OK {
		t.Fatalf("a disk of %d bytes: %d", len(b), e)
	}
	return &world{t, g, d, txn.Begin(d)}
}

func none(int) bool { return false }

func all(int) bool { return true }

func from(first int) func(i int) bool { return func(i int) bool { return i >= first } }

func only(nums ...int) func(i int) bool {
	return func(i int) bool { return slices.Contains(nums, i) }
}

func want(t *testing.T, what string, e, code api.Errno) {
	t.Helper()
	if e != code {
		t.Errorf("%s: %d, want %d", what, e, code)
	}
}

func (w *world) find(what string, x api.Inode, k, n int) {
	w.t.Helper()
	if m, e := bmap.Find(w.x, w.g, x, k); m != n || e != api.OK {
		w.t.Errorf("%s: Find(%d): %d, %d, want %d", what, k, m, e, n)
	}
}

func (w *world) noFind(what string, x api.Inode, k int, code api.Errno) {
	w.t.Helper()
	if m, e := bmap.Find(w.x, w.g, x, k); m != 0 || e != code {
		w.t.Errorf("%s: Find(%d): %d, %d, want 0, %d", what, k, m, e, code)
	}
}

func (w *world) add(what string, x api.Inode, k, n int) api.Inode {
	w.t.Helper()
	y, m, e := bmap.Add(w.x, w.g, x, k)
	if m != n || e != api.OK {
		w.t.Errorf("%s: Add(%d): %d, %d, want %d", what, k, m, e, n)
	}
	if y.Kind != x.Kind || y.Links != x.Links || y.Size != x.Size {
		w.t.Errorf("%s: Add(%d): of %v it makes %v", what, k, x, y)
	}
	return y
}

func (w *world) noAdd(what string, x api.Inode, k int, code api.Errno) {
	w.t.Helper()
	if y, m, e := bmap.Add(w.x, w.g, x, k); y != (api.Inode{}) || m != 0 || e != code {
		w.t.Errorf("%s: Add(%d): %v, %d, %d, want %d", what, k, y, m, e, code)
	}
}

func (w *world) cut(what string, x api.Inode, k int) api.Inode {
	w.t.Helper()
	y, e := bmap.Cut(w.x, w.g, x, k)
	if e != api.OK {
		w.t.Errorf("%s: Cut(%d): %d", what, k, e)
	}
	if y.Kind != x.Kind || y.Links != x.Links || y.Size != x.Size {
		w.t.Errorf("%s: Cut(%d): of %v it makes %v", what, k, x, y)
	}
	return y
}

func (w *world) noCut(what string, x api.Inode, k int, code api.Errno) {
	w.t.Helper()
	if y, e := bmap.Cut(w.x, w.g, x, k); y != (api.Inode{}) || e != code {
		w.t.Errorf("%s: Cut(%d): %v, %d, want %d", what, k, y, e, code)
	}
}

func (w *world) all(what string, x api.Inode, blocks [][2]int, tables []int) {
	w.t.Helper()
	l, m, e := bmap.All(w.x, w.g, x)
	if !slices.Equal(l, blocks) || !slices.Equal(m, tables) || e != api.OK {
		w.t.Errorf("%s: All: %v, %v, %d, want %v, %v", what, l, m, e, blocks, tables)
	}
}

func (w *world) noAll(what string, x api.Inode, code api.Errno) {
	w.t.Helper()
	if l, m, e := bmap.All(w.x, w.g, x); len(l) != 0 || len(m) != 0 || e != code {
		w.t.Errorf("%s: All: %v, %v, %d, want %d", what, l, m, e, code)
	}
}

func (w *world) free(what string, n int) {
	w.t.Helper()
	if k, e := space.Free(w.x, w.g); k != n || e != api.OK {
		w.t.Errorf("%s: Free: %d, %d, want %d", what, k, e, n)
	}
}

// isFree holds that of these blocks the data blocks are free.
func (w *world) isFree(what string, nums ...int) {
	w.t.Helper()
	for _, i := range nums {
		if on, e := space.Used(w.x, w.g, i); on || e != api.OK {
			w.t.Errorf("%s: block %d: taken %v, %d", what, i, on, e)
		}
	}
}

func (w *world) written(what string, nums ...int) {
	w.t.Helper()
	slices.Sort(nums)
	if l := w.x.Written(); !slices.Equal(l, nums) {
		w.t.Errorf("%s: Written: %v, want %v", what, l, nums)
	}
}

func (w *world) reads(what string, i int, b []byte) {
	w.t.Helper()
	if seen, e := w.x.Read(i); e != api.OK || !bytes.Equal(seen, b) {
		w.t.Errorf("%s: Read(%d): %d, or other bytes", what, i, e)
	}
}

func (w *world) put(i int, b []byte) {
	w.t.Helper()
	if e := w.x.Write(i, b); e != api.OK {
		w.t.Fatalf("Write(%d): %d", i, e)
	}
}

// keep puts blocks with the bytes that they have, so that they can be read with the power out.
func (w *world) keep(nums ...int) {
	w.t.Helper()
	for _, i := range nums {
		b, e := w.x.Read(i)
		want(w.t, "Read", e, api.OK)
		w.put(i, b)
	}
}

// sight is all that a transaction and its disk tell of themselves.
func (w *world) sight() string {
	m, e := w.x.Mark()
	writes, flushes := w.d.Steps()
	text := fmt.Sprint(m, e, w.x.Written(), w.x.Over(), w.d.Down(), writes, flushes, w.d.Pending())
	sum := crc32.NewIEEE()
	for i := range w.g.Blocks {
		b, e := w.x.Read(i)
		sum.Write(append(b, byte(e)))
	}
	return text + fmt.Sprintf(" %x", sum.Sum32())
}

// still does something and holds that the transaction and its disk are as they were.
func (w *world) still(what string, does func()) {
	w.t.Helper()
	before := w.sight()
	does()
	if w.sight() != before {
		w.t.Errorf("%s: something has changed", what)
	}
}

// withOne is a record with one number more: direct ones at 0 to 9, One at 10, Two at 11.
func withOne(x api.Inode, at, n int) api.Inode {
	switch {
	case at < 10:
		x.Direct[at] = n
	case at == 10:
		x.One = n
	default:
		x.Two = n
	}
	return x
}

// one is a record with a single number.
func one(at, n int) api.Inode { return withOne(empty, at, n) }

// ends are what can be with a transaction's blocks: in reach, or the error that tells that they aren't.
var ends = map[string]api.Errno{"under way": api.OK, "down": api.ErrDown, "over": api.ErrOver}

func (w *world) end(how string) {
	switch how {
	case "down":
		w.d.Crash(nil)
	case "over":
		w.x.Abort()
	}
}

// P10.1, P10.2, P10.3: indices that a call doesn't take, ahead of all other errors; none of them is one by wrapping round.
func TestFar(t *testing.T) {
	outside := []int{math.MinInt, math.MinInt + 10, math.MinInt + 138, -1 << 40, -1 << 32, -16522, -138, -128, -10, -1, 16523, 16524, 16650, 1 << 16, 1 << 31, 1<<32 + 3, 1 << 40, math.MaxInt - 137, math.MaxInt - 1, math.MaxInt}
	wrong := api.Inode{One: -1, Two: 5}
	for i := range wrong.Direct {
		wrong.Direct[i] = 100
	}
	for how := range ends {
		for _, x := range []api.Inode{empty, wrong, one(10, 102), one(11, 102)} {
			w := begun(t, 128, all, nil)
			w.end(how)
			w.still(how, func() {
				for _, k := range append(outside, 16522) {
					w.noFind("P10.1: "+how, x, k, api.ErrFar)
					w.noAdd("P10.2: "+how, x, k, api.ErrFar)
				}
				for _, k := range outside {
					w.noCut("P10.3: "+how, x, k, api.ErrFar)
				}
				if y := w.cut("P10.3: "+how, x, 16522); y != x {
					t.Errorf("P10.3: Cut(16522) of %v: %v", x, y)
				}
			})
		}
	}
}

// wideNumber is what stands at an index of a wide file.
func wideNumber(k int) int { return 130 + k%167 }

// wide is a file with a number at every index but those of the tables in its table of tables that aren't asked for: a small disk hasn't room for all.
func wide(t *testing.T, tables map[int]bool) (*world, api.Inode) {
	t.Helper()
	x := empty
	for i := range x.Direct {
		x.Direct[i] = wideNumber(i)
	}
	x.One, x.Two = 103, 104
	blocks := map[int][]byte{}
	ones, twos := map[int]int{}, map[int]int{}
	for at := range 128 {
		ones[at] = wideNumber(10 + at)
	}
	next := 105
	for at := range 128 {
		if !tables[at] {
			continue
		}
		inner := map[int]int{}
		for i := range 128 {
			inner[i] = wideNumber(138 + 128*at + i)
		}
		twos[at] = next
		blocks[next] = holding(inner)
		next++
	}
	blocks[103], blocks[104] = holding(ones), holding(twos)
	return begun(t, 300, none, blocks), x
}

// P10.1, P10.2, P10.4: each index of a wide file, by the tables on its way.
func TestEveryIndex(t *testing.T) {
	for first := 0; first < 128; first += 16 {
		tables := map[int]bool{}
		for at := first; at < first+16; at++ {
			tables[at] = true
		}
		w, x := wide(t, tables)
		var blocks [][2]int
		w.still("P10.1", func() {
			for k := range last + 1 {
				n := wideNumber(k)
				if k >= 138 && !tables[(k-138)/128] {
					n = 0
				}
				w.find("P10.1", x, k, n)
				if n == 0 {
					continue
				}
				blocks = append(blocks, [2]int{k, n})
				if y := w.add("P10.2: one that is there", x, k, n); y != x {
					t.Errorf("P10.2: of %v it makes %v", x, y)
				}
			}
			nums := []int{103, 104}
			for i := range 16 {
				nums = append(nums, 105+i)
			}
			w.all("P10.4", x, blocks, nums)
		})
	}
}

// thin is a record with a block at one index alone, and the tables that lead there.
type thin struct {
	x      api.Inode
	tables []int
}

// thinFile is such a file: its block is 120, its tables are 110 and 111.
func thinFile(t *testing.T, n, k int, free func(i int) bool) (*world, thin) {
	t.Helper()
	switch {
	case k < 10:
		return begun(t, n, free, nil), thin{one(k, 120), nil}
	case k < 138:
		return begun(t, n, free, map[int][]byte{110: holding(map[int]int{k - 10: 120})}), thin{one(10, 110), []int{110}}
	}
	at, in := (k-138)/128, (k-138)%128
	return begun(t, n, free, map[int][]byte{110: holding(map[int]int{at: 111}), 111: holding(map[int]int{in: 120})}), thin{one(11, 110), []int{110, 111}}
}

// P10.1, P10.4: files of one block: found at its index, a hole at each other one; nothing is put.
func TestOneBlock(t *testing.T) {
	for _, k := range edges {
		w, f := thinFile(t, 128, k, none)
		w.still("one block", func() {
			for _, i := range edges {
				n := 0
				if i == k {
					n = 120
				}
				w.find(fmt.Sprintf("P10.1: a block at %d", k), f.x, i, n)
			}
			w.all("P10.4", f.x, [][2]int{{k, 120}}, f.tables)
			if y := w.add("P10.2", f.x, k, 120); y != f.x {
				t.Errorf("P10.2: of %v it makes %v", f.x, y)
			}
		})
	}
}

// bad are numbers of a record that are no data blocks', on a disk of 128 blocks.
var bad = []int{math.MinInt, math.MinInt + 101, -1 << 32, -101, -1, 1, 2, 97, 98, 99, 100, 128, 129, 1<<16 + 101, 1<<32 + 101, math.MaxInt - 1, math.MaxInt}

// badInTable are such of a table.
var badInTable = []int{1, 98, 100, 128, 129, 255, 1 << 8, 1<<8 + 101, 1<<16 + 101, 1<<24 + 101, 1 << 31, 1<<31 + 101, 1<<32 - 1}

// faulty calls all four on a record with a number at fault at the index k.
func faulty(w *world, what string, x api.Inode, k int) {
	w.t.Helper()
	w.still(what, func() {
		w.noFind("P10.1: "+what, x, k, api.ErrPointer)
		w.noAdd("P10.2: "+what, x, k, api.ErrPointer)
		w.noCut("P10.3: "+what, x, k, api.ErrPointer)
		w.noCut("P10.3: "+what, x, 0, api.ErrPointer)
		w.noAll("P10.4: "+what, x, api.ErrPointer)
	})
}

// P10.1 to P10.4, W7: each number of a record at fault, and good at the edges of the data; looked at where the way goes through it alone.
func TestNumbersOfTheRecord(t *testing.T) {
	first := []int{0, 1, 2, 3, 4, 5, 6, 7, 8, 9, 10, 138, 16522}
	for at := range 12 {
		for _, n := range bad {
			for how := range ends {
				w := begun(t, 128, none, nil)
				w.end(how)
				what := fmt.Sprintf("%d at %d, %s", n, at, how)
				x := one(at, n)
				faulty(w, what, x, first[at])
				faulty(w, what, x, first[at+1]-1)
				w.still(what, func() {
					for _, k := range []int{first[at] - 1, first[at+1]} {
						if k >= 0 && k <= last {
							w.find("P10.1: beside it: "+what, x, k, 0)
						}
					}
					if y := w.cut("P10.3: behind it: "+what, x, first[at+1]); y != x {
						t.Errorf("P10.3: behind it: %s: %v", what, y)
					}
					w.noCut("P10.3: ahead of it: "+what, x, max(first[at]-1, 0), api.ErrPointer)
				})
			}
		}
		for _, n := range []int{101, 127} {
			zeros := map[int][]byte{n: make([]byte, size)}
			w := begun(t, 128, none, zeros)
			x, k := one(at, n), first[at]
			own, blocks, tables := n, [][2]int{{k, n}}, []int(nil)
			if at >= 10 {
				own, blocks, tables = 0, nil, []int{n}
			}
			w.find("P10.1: a good one", x, k, own)
			w.all("P10.4: a good one", x, blocks, tables)
			if y := w.cut("P10.3: a good one", x, k); y != empty {
				t.Errorf("P10.3: a good one: %v", y)
			}
			w.isFree("P10.3: a good one", n)
			w.written("P10.3: a good one", 98)
		}
	}
}

// P10.1 to P10.4, W7: a number of a table at fault, at the first, a middle and the last place; looked at where the way goes through it alone.
func TestNumbersOfATable(t *testing.T) {
	for _, n := range badInTable {
		for _, at := range []int{0, 5, 127} {
			what := fmt.Sprintf("%d at %d", n, at)
			table := holding(map[int]int{at: n})

			w := begun(t, 128, none, map[int][]byte{110: table})
			x := one(10, 110)
			faulty(w, "One: "+what, x, 10+at)
			for i := range 128 {
				if i != at {
					w.find("P10.1: beside it: "+what, x, 10+i, 0)
				}
			}
			w.still(what, func() {
				if y := w.cut("P10.3: behind it: "+what, x, 11+at); y != x {
					t.Errorf("P10.3: behind it: %s: %v", what, y)
				}
			})

			x = one(11, 110)
			faulty(w, "Two: "+what, x, 138+128*at)
			faulty(w, "Two: "+what, x, 138+128*at+127)
			for _, k := range []int{138 + 128*at - 1, 138 + 128*at + 128} {
				if k <= last {
					w.find("P10.1: beside it: Two: "+what, x, k, 0)
				}
			}
			w.still(what, func() {
				if y := w.cut("P10.3: behind it: Two: "+what, x, 138+128*at+128); y != x {
					t.Errorf("P10.3: behind it: Two: %s: %v", what, y)
				}
				w.noCut("P10.3: in it: Two: "+what, x, 138+128*at+127, api.ErrPointer)
			})

			w = begun(t, 128, none, map[int][]byte{110: holding(map[int]int{3: 111}), 111: table})
			faulty(w, "in Two: "+what, x, 138+128*3+at)
			w.find("P10.1: beside it: in Two: "+what, x, 138+128*3+(at+1)%128, 0)
			w.still(what, func() {
				if y := w.cut("P10.3: behind it: in Two: "+what, x, 138+128*3+at+1); y != x {
					t.Errorf("P10.3: behind it: in Two: %s: %v", what, y)
				}
			})
		}
	}
}

// P10.1, P10.2: good numbers of tables, at the data's edges, each at each step of a way.
func TestGoodNumbersOfATable(t *testing.T) {
	for _, n := range []int{101, 127} {
		w := begun(t, 128, none, map[int][]byte{110: alike(n), 111: alike(110), n: make([]byte, size)})
		w.still("good", func() {
			for _, k := range []int{10, 50, 137} {
				w.find("P10.1: One", one(10, 110), k, n)
				w.add("P10.2: One", one(10, 110), k, n)
			}
			for _, k := range []int{138, 300, last} {
				w.find("P10.1: Two", one(11, 111), k, n)
				w.add("P10.2: Two", one(11, 111), k, n)
				w.find("P10.1: Two, without a number", one(11, 110), k, 0)
			}
		})
	}
}

// P10.1, P10.2, P10.4: which tables are read: with the power out just those that are put can be; a number is looked at ahead of its table's reading.
func TestTablesThatAreRead(t *testing.T) {
	blocks := map[int][]byte{110: holding(map[int]int{0: 120}), 111: holding(map[int]int{0: 112, 1: 113}), 112: holding(map[int]int{0: 121}), 113: holding(map[int]int{0: 122})}
	x := empty
	x.Direct[2], x.One, x.Two = 119, 110, 111
	ways := map[int][]int{0: nil, 2: nil, 10: {110}, 11: {110}, 138: {111, 112}, 139: {111, 112}, 266: {111, 113}, 267: {111, 113}, 394: {111}, last: {111}}
	found := map[int]int{2: 119, 10: 120, 138: 121, 266: 122}
	for known := range 16 {
		w := begun(t, 128, none, blocks)
		for i := range 4 {
			if known>>i&1 == 1 {
				w.keep(110 + i)
			}
		}
		w.end("down")
		what := fmt.Sprintf("put %04b", known)
		w.still(what, func() {
			for k, tables := range ways {
				can := true
				for _, i := range tables {
					can = can && known>>(i-110)&1 == 1
				}
				if can {
					w.find("P10.1: "+what, x, k, found[k])
				} else {
					w.noFind("P10.1: "+what, x, k, api.ErrDown)
					w.noAdd("P10.2: "+what, x, k, api.ErrDown)
				}
				if can && found[k] != 0 {
					w.add("P10.2: "+what, x, k, found[k])
				}
			}
			if known == 15 {
				w.all("P10.4: "+what, x, [][2]int{{2, 119}, {10, 120}, {138, 121}, {266, 122}}, []int{110, 111, 112, 113})
			} else {
				w.noAll("P10.4: "+what, x, api.ErrDown)
			}
		})
	}
}

// P10.1 to P10.4: what asks neither the transaction nor space is answered though it is over, or the power out; what does, is not.
func TestOverAndDown(t *testing.T) {
	for how, code := range ends {
		if code == api.OK {
			continue
		}
		for _, k := range edges {
			w, f := thinFile(t, 128, k, from(121))
			w.end(how)
			what := fmt.Sprintf("%s, a block at %d", how, k)
			w.still(what, func() {
				w.noCut("P10.3: "+what, f.x, 0, code)
				w.noCut("P10.3: "+what, f.x, k, code)
				if f.tables == nil {
					w.find("P10.1: "+what, f.x, k, 120)
					if y := w.add("P10.2: "+what, f.x, k, 120); y != f.x {
						t.Errorf("P10.2: %s: %v", what, y)
					}
					w.all("P10.4: "+what, f.x, [][2]int{{k, 120}}, nil)
				} else {
					w.noFind("P10.1: "+what, f.x, k, code)
					w.noAdd("P10.2: "+what, f.x, k, code)
					w.noAll("P10.4: "+what, f.x, code)
				}
				for _, i := range edges {
					w.find("P10.1: a hole in the record: "+what, empty, i, 0)
					w.noAdd("P10.2: a hole in the record: "+what, empty, i, code)
					if y := w.cut("P10.3: nothing: "+what, empty, i); y != empty {
						t.Errorf("P10.3: %s: %v", what, y)
					}
				}
				w.all("P10.4: nothing: "+what, empty, nil, nil)
				if y := w.cut("P10.3: nothing behind it: "+what, f.x, 16522); y != f.x {
					t.Errorf("P10.3: %s: %v", what, y)
				}
			})
		}
	}
}

// P10.2 to P10.4: over by each end, whatever was put ahead of it.
func TestOverByEachEnd(t *testing.T) {
	for _, how := range []string{"Abort", "Commit", "a cut Commit"} {
		w := begun(t, 128, all, nil)
		x := w.add(how, empty, 138, 103)
		switch how {
		case "Abort":
			w.x.Abort()
		case "Commit":
			want(t, how, w.x.Commit(), api.OK)
		default:
			w.d.Arm(api.Crash{At: 3})
			want(t, how, w.x.Commit(), api.ErrDown)
		}
		w.still(how, func() {
			w.noFind(how, x, 138, api.ErrOver)
			w.noAdd(how, x, 138, api.ErrOver)
			w.noAdd(how, x, 0, api.ErrOver)
			w.noCut(how, x, 0, api.ErrOver)
			w.noAll(how, x, api.ErrOver)
		})
	}
}

// P10.4: new memory: what is done to one answer is seen in no other.
func TestNewMemory(t *testing.T) {
	w := begun(t, 128, all, nil)
	x := empty
	for _, k := range []int{0, 10, 138, 266} {
		y, _, e := bmap.Add(w.x, w.g, x, k)
		want(t, "Add", e, api.OK)
		x = y
	}
	blocks := [][2]int{{0, 101}, {10, 103}, {138, 106}, {266, 108}}
	tables := []int{102, 104, 105, 107}
	w.all("P10.7", x, blocks, tables)
	for range 3 {
		l, m, _ := bmap.All(w.x, w.g, x)
		l = l[:cap(l)]
		m = m[:cap(m)]
		for i := range l {
			l[i] = [2]int{-1, -1}
		}
		for i := range m {
			m[i] = -1
		}
		w.all("P10.7", x, blocks, tables)
	}
	l, m, _ := bmap.All(w.x, w.g, x)
	bmap.Cut(w.x, w.g, x, 0)
	bmap.All(w.x, w.g, one(3, 120))
	if !slices.Equal(l, blocks) || !slices.Equal(m, tables) {
		t.Errorf("P10.7: an answer has changed: %v, %v", l, m)
	}
}

// P10.4: the orders in which blocks and tables are told, whatever their numbers are; a block that is told twice stands twice.
func TestAllInOrder(t *testing.T) {
	w := begun(t, 128, none, map[int][]byte{
		110: holding(map[int]int{0: 127, 1: 101, 127: 110}),
		120: holding(map[int]int{0: 110, 2: 105, 127: 120}),
		105: holding(map[int]int{0: 101, 127: 101}),
	})
	x := empty
	x.Direct = [10]int{127, 0, 126, 126, 0, 0, 0, 0, 110, 101}
	x.One, x.Two = 110, 120
	blocks := [][2]int{
		{0, 127}, {2, 126}, {3, 126}, {8, 110}, {9, 101},
		{10, 127}, {11, 101}, {137, 110},
		{138, 127}, {139, 101}, {265, 110},
		{394, 101}, {521, 101},
		{16394, 110}, {16396, 105}, {last, 120},
	}
	w.still("P10.4", func() {
		w.all("P10.4", x, blocks, []int{110, 120, 110, 105, 120})
		for _, b := range blocks {
			w.find("P10.1", x, b[0], b[1])
		}
	})
}
