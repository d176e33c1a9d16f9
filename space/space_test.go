package space_test

import (
	"bytes"
	"fmt"
	"hash/crc32"
	"math"
	"math/rand"
	"slices"
	"testing"

	"bole/adisk"
	"bole/api"
	"bole/geo"
	"bole/space"
	"bole/txn"
)

const size = api.BlockSize

func full(c byte) []byte { return bytes.Repeat([]byte{c}, size) }

// lengths are disks of one bitmap block to four, with the edges between them.
var lengths = []int{128, 129, 300, 4095, 4096, 4097, 4200, 8192, 8193, 12289, 16384}

func laid(t *testing.T, n int) api.Geo {
	t.Helper()
	g, e := geo.Of(n)
	if e != api.OK {
		t.Fatalf("a disk of %d blocks: %d", n, e)
	}
	return g
}

// bitsOf is how many bits a bitmap has, those of no block with them.
func bitsOf(g api.Geo) int { return (g.Inodes - g.Bitmap) * 4096 }

func isData(g api.Geo, k int) bool { return k >= g.Data && k < g.Blocks }

// image is a disk's bytes: those of its data are 7, and on tells which bits of its bitmap are 1.
func image(g api.Geo, on func(k int) bool) []byte {
	b := make([]byte, g.Blocks*size)
	for i := g.Data * size; i < len(b); i++ {
		b[i] = 7
	}
	for k := range bitsOf(g) {
		if on(k) {
			b[g.Bitmap*size+k/8] |= 1 << (k % 8)
		}
	}
	return b
}

// onlyFree: as mkfs leaves a bitmap, with these data blocks free and no other one.
func onlyFree(nums ...int) func(k int) bool {
	return func(k int) bool { return !slices.Contains(nums, k) }
}

// allFree: as mkfs leaves a bitmap.
func allFree(g api.Geo) func(k int) bool {
	return func(k int) bool { return !isData(g, k) }
}

func opened(t *testing.T, b []byte) *adisk.Disk {
	t.Helper()
	d, e := adisk.Open(b)
	if e != api.OK {
		t.Fatalf("a disk of %d bytes: %d", len(b), e)
	}
	return d
}

// begun is a transaction on a disk whose bitmap is told by on.
func begun(t *testing.T, g api.Geo, on func(k int) bool) (*adisk.Disk, *txn.Txn) {
	t.Helper()
	d := opened(t, image(g, on))
	return d, txn.Begin(d)
}

func want(t *testing.T, what string, e, code api.Errno) {
	t.Helper()
	if e != code {
		t.Errorf("%s: %d, want %d", what, e, code)
	}
}

func wantTake(t *testing.T, what string, x *txn.Txn, g api.Geo, i int) {
	t.Helper()
	if n, e := space.Take(x, g); n != i || e != api.OK {
		t.Errorf("%s: Take: %d, %d, want %d", what, n, e, i)
	}
}

func wantNoTake(t *testing.T, what string, x *txn.Txn, g api.Geo, code api.Errno) {
	t.Helper()
	if n, e := space.Take(x, g); n != 0 || e != code {
		t.Errorf("%s: Take: %d, %d, want 0, %d", what, n, e, code)
	}
}

func wantGive(t *testing.T, what string, x *txn.Txn, g api.Geo, i int, code api.Errno) {
	t.Helper()
	if e := space.Give(x, g, i); e != code {
		t.Errorf("%s: Give(%d): %d, want %d", what, i, e, code)
	}
}

func wantUsed(t *testing.T, what string, x *txn.Txn, g api.Geo, i int, taken bool) {
	t.Helper()
	if on, e := space.Used(x, g, i); on != taken || e != api.OK {
		t.Errorf("%s: Used(%d): %v, %d, want %v", what, i, on, e, taken)
	}
}

func wantNoUsed(t *testing.T, what string, x *txn.Txn, g api.Geo, i int, code api.Errno) {
	t.Helper()
	if on, e := space.Used(x, g, i); on || e != code {
		t.Errorf("%s: Used(%d): %v, %d, want false, %d", what, i, on, e, code)
	}
}

func wantFree(t *testing.T, what string, x *txn.Txn, g api.Geo, n int) {
	t.Helper()
	if k, e := space.Free(x, g); k != n || e != api.OK {
		t.Errorf("%s: Free: %d, %d, want %d", what, k, e, n)
	}
}

func wantNoFree(t *testing.T, what string, x *txn.Txn, g api.Geo, code api.Errno) {
	t.Helper()
	if k, e := space.Free(x, g); k != 0 || e != code {
		t.Errorf("%s: Free: %d, %d, want 0, %d", what, k, e, code)
	}
}

func wantWritten(t *testing.T, what string, x *txn.Txn, nums ...int) {
	t.Helper()
	if w := x.Written(); !slices.Equal(w, nums) {
		t.Errorf("%s: Written: %v, want %v", what, w, nums)
	}
}

func wantRead(t *testing.T, what string, x *txn.Txn, i int, b []byte) {
	t.Helper()
	if seen, e := x.Read(i); e != api.OK || !bytes.Equal(seen, b) {
		t.Errorf("%s: Read(%d): %d, or other bytes", what, i, e)
	}
}

func mustPut(t *testing.T, x *txn.Txn, i int, b []byte) {
	t.Helper()
	if e := x.Write(i, b); e != api.OK {
		t.Fatalf("Write(%d): %d", i, e)
	}
}

// sight is all that a transaction tells of itself: its row of puts, what is put, every block as it sees it.
func sight(x *txn.Txn, g api.Geo) string {
	m, e := x.Mark()
	text := fmt.Sprint(m, e, x.Written(), x.Over())
	sum := crc32.NewIEEE()
	for i := range g.Blocks {
		b, e := x.Read(i)
		sum.Write(append(b, byte(e)))
	}
	return text + fmt.Sprintf(" %x", sum.Sum32())
}

// state is what a disk tells of itself.
func state(d *adisk.Disk) string {
	w, f := d.Steps()
	return fmt.Sprint(d.Down(), w, f, d.Pending(), crc32.ChecksumIEEE(d.Image()))
}

// still does something and holds that the transaction and its disk are as they were.
func still(t *testing.T, what string, d *adisk.Disk, x *txn.Txn, g api.Geo, does func()) {
	t.Helper()
	before, disk := sight(x, g), state(d)
	does()
	if sight(x, g) != before {
		t.Errorf("%s: the transaction has changed", what)
	}
	if state(d) != disk {
		t.Errorf("%s: the disk has changed", what)
	}
}

// wantBits holds the whole bitmap, as the transaction sees it, against what on tells.
func wantBits(t *testing.T, what string, x *txn.Txn, g api.Geo, on func(k int) bool) {
	t.Helper()
	for i := g.Bitmap; i < g.Inodes; i++ {
		b, e := x.Read(i)
		if e != api.OK || len(b) != size {
			t.Fatalf("%s: Read(%d): %d", what, i, e)
		}
		for bit := range 4096 {
			k := (i-g.Bitmap)*4096 + bit
			if (b[bit/8]>>(bit%8)&1 == 1) != on(k) {
				t.Fatalf("%s: bit %d is other than %v", what, k, on(k))
			}
		}
	}
}

// outside are numbers of no block; none of them may be one by wrapping round.
func outside(g api.Geo) []int {
	return []int{math.MinInt, math.MinInt + g.Data, -1 << 40, -4096, -g.Data, -5, -1, g.Blocks, g.Blocks + 1, bitsOf(g) - 1 + g.Blocks, 1<<32 + g.Data, 1 << 40, math.MaxInt - 1, math.MaxInt}
}

// ahead are blocks of the disk that are no data blocks.
func ahead(g api.Geo) []int {
	return []int{0, 1, 97, 98, g.Bitmap, g.Inodes - 1, g.Inodes, g.Data - 1}
}

// some are all data blocks of a small disk, and of a greater one those about the edges of its bitmap's blocks and bytes.
func some(g api.Geo) []int {
	var nums []int
	for i := g.Data; i < g.Blocks; i++ {
		edge := i < g.Data+2 || i >= g.Blocks-2 || i%4096 < 2 || i%4096 > 4094
		if g.Blocks < 200 || edge {
			nums = append(nums, i)
		}
	}
	return nums
}

// P9.1: each data block in turn being the one that is free; what is put, and which bit has changed.
func TestTakeOfTheOnlyOne(t *testing.T) {
	for _, n := range lengths {
		g := laid(t, n)
		for _, i := range some(g) {
			what := fmt.Sprintf("P9.1: %d of %d", i, n)
			d, x := begun(t, g, onlyFree(i))
			disk := state(d)
			wantFree(t, what, x, g, 1)
			wantUsed(t, what, x, g, i, false)
			wantTake(t, what, x, g, i)
			wantWritten(t, what, x, g.Bitmap+i/4096, i)
			wantRead(t, what, x, i, make([]byte, size))
			wantBits(t, what, x, g, onlyFree())
			wantFree(t, what, x, g, 0)
			wantUsed(t, what, x, g, i, true)
			still(t, what+": none", d, x, g, func() { wantNoTake(t, what, x, g, api.ErrSpace) })
			if state(d) != disk {
				t.Errorf("%s: the disk was touched", what)
			}
		}
	}
}

// P9.1, P9.4: all data blocks one behind the other, in a transaction of their own every so often, till none is free.
func TestTakeTillNoneIsFree(t *testing.T) {
	for _, n := range []int{128, 300, 4200} {
		g := laid(t, n)
		d, x := begun(t, g, allFree(g))
		for i := g.Data; i < n; i++ {
			if (i-g.Data)%40 == 39 {
				want(t, "Commit", x.Commit(), api.OK)
				x = txn.Begin(d)
			}
			wantFree(t, "P9.4", x, g, n-i)
			wantTake(t, "P9.1", x, g, i)
		}
		wantFree(t, "P9.4: none", x, g, 0)
		wantNoTake(t, "P9.1: none", x, g, api.ErrSpace)
		wantBits(t, "P9.1: none", x, g, onlyFree())
		want(t, "Commit", x.Commit(), api.OK)
		if b := d.Image(); !bytes.Equal(b[g.Data*size:], make([]byte, (n-g.Data)*size)) {
			t.Error("P9.1: blocks that were taken are no zeros on the disk")
		}
	}
}

// P9.1, P9.4: bitmaps of any bytes, those of blocks that are no data blocks with them: what stands there is believed, and only the data's bits are looked at.
func TestAnyBitmap(t *testing.T) {
	r := rand.New(rand.NewSource(9))
	for _, n := range lengths {
		g := laid(t, n)
		for _, part := range []int{0, 1, 50, 99, 100} {
			what := fmt.Sprintf("%d blocks, %d of 100 taken", n, part)
			stood := make([]bool, bitsOf(g))
			var free []int
			for k := range stood {
				stood[k] = r.Intn(100) < part
				if isData(g, k) && !stood[k] {
					free = append(free, k)
				}
			}
			d, x := begun(t, g, func(k int) bool { return stood[k] })
			still(t, "P9.5: "+what, d, x, g, func() {
				wantFree(t, "P9.4: "+what, x, g, len(free))
				for k := range n {
					wantUsed(t, "P9.3: "+what, x, g, k, stood[k])
				}
			})
			for k, i := range free[:min(len(free), 40)] {
				wantTake(t, "P9.1: "+what, x, g, i)
				wantFree(t, "P9.4: "+what, x, g, len(free)-k-1)
				stood[i] = true
			}
			if len(free) <= 40 {
				wantNoTake(t, "P9.1: "+what, x, g, api.ErrSpace)
			}
			wantBits(t, "P9.1: "+what, x, g, func(k int) bool { return stood[k] })
		}
	}
}

// P9.1 to P9.4: the bits of blocks that are no data blocks, and of none at all, being 1 or 0, change no answer for the data, nor are they changed.
func TestOtherBits(t *testing.T) {
	for _, n := range lengths {
		g := laid(t, n)
		for _, front := range []bool{false, true} {
			for _, behind := range []bool{false, true} {
				what := fmt.Sprintf("%d blocks, %v ahead of the data, %v behind", n, front, behind)
				last := n - 1
				on := func(k int) bool {
					switch {
					case k < g.Data:
						return front
					case k >= n:
						return behind
					}
					return k != last
				}
				_, x := begun(t, g, on)
				wantFree(t, "P9.4: "+what, x, g, 1)
				wantTake(t, "P9.1: "+what, x, g, last)
				wantFree(t, "P9.4: "+what, x, g, 0)
				wantNoTake(t, "P9.1: "+what, x, g, api.ErrSpace)
				for _, i := range ahead(g) {
					wantUsed(t, "P9.3: "+what, x, g, i, front)
					wantGive(t, "P9.2: "+what, x, g, i, api.ErrFree)
				}
				for _, i := range outside(g) {
					wantNoUsed(t, "P9.3: "+what, x, g, i, api.ErrBlock)
					wantGive(t, "P9.2: "+what, x, g, i, api.ErrFree)
				}
				wantGive(t, "P9.2: "+what, x, g, g.Data, api.OK)
				wantGive(t, "P9.2: "+what, x, g, last, api.OK)
				wantFree(t, "P9.4: "+what, x, g, 2)
				wantTake(t, "P9.1: "+what, x, g, g.Data)
				wantBits(t, "P9.2: "+what, x, g, on)
			}
		}
	}
}

// P9.2, P9.3: numbers that are no data blocks', and no blocks', with the transaction under way, with the power out, and over.
func TestNumbersOutside(t *testing.T) {
	for _, n := range lengths {
		g := laid(t, n)
		for _, how := range []string{"under way", "down", "over"} {
			d, x := begun(t, g, allFree(g))
			end := api.OK
			switch how {
			case "down":
				d.Crash(nil)
				end = api.ErrDown
			case "over":
				x.Abort()
				end = api.ErrOver
			}
			what := fmt.Sprintf("%d blocks, %s", n, how)
			still(t, what, d, x, g, func() {
				for _, i := range outside(g) {
					wantGive(t, "P9.2: "+what, x, g, i, api.ErrFree)
					wantNoUsed(t, "P9.3: "+what, x, g, i, api.ErrBlock)
				}
				for _, i := range ahead(g) {
					wantGive(t, "P9.2: "+what, x, g, i, api.ErrFree)
					if end == api.OK {
						wantUsed(t, "P9.3: "+what, x, g, i, true)
					} else {
						wantNoUsed(t, "P9.3: "+what, x, g, i, end)
					}
				}
				for _, i := range []int{g.Data, n - 1} {
					if end == api.OK {
						wantUsed(t, "P9.3: "+what, x, g, i, false)
						wantGive(t, "P9.2: "+what, x, g, i, api.ErrFree)
					} else {
						wantNoUsed(t, "P9.3: "+what, x, g, i, end)
						wantGive(t, "P9.2: "+what, x, g, i, end)
					}
				}
			})
		}
	}
}

// P9.2: each data block given back by itself: its bit alone, the bitmap's block alone, its bytes as they are.
func TestGiveOfEach(t *testing.T) {
	for _, n := range lengths {
		g := laid(t, n)
		for _, i := range some(g) {
			what := fmt.Sprintf("P9.2: %d of %d", i, n)
			d, x := begun(t, g, onlyFree())
			disk := state(d)
			wantGive(t, what, x, g, i, api.OK)
			wantWritten(t, what, x, g.Bitmap+i/4096)
			wantBits(t, what, x, g, onlyFree(i))
			wantRead(t, what, x, i, full(7))
			wantUsed(t, what, x, g, i, false)
			wantFree(t, what, x, g, 1)
			still(t, what+", twice", d, x, g, func() { wantGive(t, what+", twice", x, g, i, api.ErrFree) })
			wantTake(t, what+", and taken", x, g, i)
			wantWritten(t, what+", and taken", x, g.Bitmap+i/4096, i)
			wantRead(t, what+", and taken", x, i, make([]byte, size))
			wantGive(t, what+", again", x, g, i, api.OK)
			wantWritten(t, what+", again: put still", x, g.Bitmap+i/4096, i)
			wantRead(t, what+", again: put still", x, i, make([]byte, size))
			if state(d) != disk {
				t.Errorf("%s: the disk was touched", what)
			}
		}
	}
}

// P9.2: a block that was put keeps its bytes when it is given back, and gets zeros when it is taken.
func TestBytesOfABlock(t *testing.T) {
	g := laid(t, 128)
	_, x := begun(t, g, allFree(g))
	wantTake(t, "P9.1", x, g, 101)
	mustPut(t, x, 101, full('A'))
	wantTake(t, "P9.1: the next one", x, g, 102)
	wantRead(t, "P9.1: the one before stays", x, 101, full('A'))
	wantGive(t, "P9.2", x, g, 101, api.OK)
	wantRead(t, "P9.2", x, 101, full('A'))
	wantWritten(t, "P9.2", x, 98, 101, 102)
	wantTake(t, "P9.1: again", x, g, 101)
	wantRead(t, "P9.1: again", x, 101, make([]byte, size))
	wantRead(t, "P9.1: again", x, 102, make([]byte, size))
	mustPut(t, x, 103, full('B'))
	wantTake(t, "P9.1: one that was put while it was free", x, g, 103)
	wantRead(t, "P9.1: one that was put while it was free", x, 103, make([]byte, size))
}

// stuffed is a transaction with so many blocks put: those of also with the bytes that they have, and others from the last one down.
func stuffed(t *testing.T, g api.Geo, on func(k int) bool, count int, also ...int) (*adisk.Disk, *txn.Txn) {
	t.Helper()
	d, x := begun(t, g, on)
	for _, i := range also {
		b, e := x.Read(i)
		want(t, "Read", e, api.OK)
		mustPut(t, x, i, b)
	}
	for k := range count - len(also) {
		mustPut(t, x, g.Blocks-1-k, full(byte(k)))
	}
	return d, x
}

// P9.1, P9.2: transactions with room for both blocks, for one of them and for none; the bitmap's block, the block, both or neither being put already.
func TestRoomOfTheTransaction(t *testing.T) {
	g := laid(t, 300)
	free := g.Data + 5
	on := func(k int) bool { return !isData(g, k) || k < free }
	for count := 2; count <= api.LogMax; count++ {
		for _, also := range [][]int{nil, {98}, {free}, {98, free}} {
			what := fmt.Sprintf("%d put, %v among them", count, also)
			d, x := stuffed(t, g, on, count, also...)
			mark, _ := x.Mark()
			if count+2-len(also) > api.LogMax {
				still(t, "P9.1: "+what, d, x, g, func() { wantNoTake(t, "P9.1: "+what, x, g, api.ErrTooBig) })
				wantBits(t, "P9.1: "+what, x, g, on)
				wantRead(t, "P9.1: "+what, x, free, full(7))
			} else {
				wantTake(t, "P9.1: "+what, x, g, free)
				wantRead(t, "P9.1: "+what, x, free, make([]byte, size))
				if w := x.Written(); len(w) != count+2-len(also) || !slices.Contains(w, 98) || !slices.Contains(w, free) {
					t.Errorf("P9.1: %s: Written: %v", what, w)
				}
				wantUsed(t, "P9.1: "+what, x, g, free, true)
			}
			want(t, what, x.Back(mark), api.OK)
			wantBits(t, what, x, g, on)
			if count == api.LogMax && !slices.Contains(also, 98) {
				still(t, "P9.2: "+what, d, x, g, func() { wantGive(t, "P9.2: "+what, x, g, g.Data, api.ErrTooBig) })
				wantUsed(t, "P9.2: "+what, x, g, g.Data, true)
			} else {
				wantGive(t, "P9.2: "+what, x, g, g.Data, api.OK)
				wantUsed(t, "P9.2: "+what, x, g, g.Data, false)
			}
		}
	}
}

// P9.1, P9.2: with no room at all, what is told ahead of ErrTooBig; and what needs no room.
func TestNoRoomAndOtherErrors(t *testing.T) {
	g := laid(t, 300)
	d, x := stuffed(t, g, onlyFree(), api.LogMax)
	still(t, "full", d, x, g, func() {
		wantNoTake(t, "P9.1: full, none free", x, g, api.ErrSpace)
		wantFree(t, "P9.4: full", x, g, 0)
		wantUsed(t, "P9.3: full", x, g, g.Data, true)
		wantGive(t, "P9.2: full", x, g, g.Data-1, api.ErrFree)
	})
	d, x = stuffed(t, g, allFree(g), api.LogMax)
	still(t, "full", d, x, g, func() {
		wantGive(t, "P9.2: full, free", x, g, g.Data, api.ErrFree)
		wantFree(t, "P9.4: full", x, g, 300-g.Data)
		wantUsed(t, "P9.3: full", x, g, g.Data, false)
	})
}

// P9.1: a refused Take of a bitmap's block that was put ahead, again and again, goes back to what was put last, and to nothing further back.
func TestRefusedTakeGoesBackToTheLastPut(t *testing.T) {
	g := laid(t, 300)
	d, x := begun(t, g, allFree(g))
	for k := range 3 {
		b, _ := x.Read(98)
		b[g.Data/8+2] = byte(0x10 + k)
		mustPut(t, x, 98, b)
	}
	for k := range 95 {
		mustPut(t, x, 299-k, full(byte(k)))
	}
	for range 3 {
		still(t, "P9.1", d, x, g, func() { wantNoTake(t, "P9.1", x, g, api.ErrTooBig) })
	}
	b, _ := x.Read(98)
	if b[g.Data/8+2] != 0x12 {
		t.Errorf("P9.1: the bitmap's bytes are not those that were put last: %x", b[g.Data/8+2])
	}
	if m, e := x.Mark(); m != 98 || e != api.OK {
		t.Errorf("P9.1: Mark: %d, %d, want 98", m, e)
	}
	want(t, "Back", x.Back(97), api.OK)
	wantTake(t, "P9.1: room again", x, g, g.Data)
}

// P9.1, P9.4: which blocks of the bitmap are read: with the power out just those that are put can be.
func TestWhatIsRead(t *testing.T) {
	g := laid(t, 12289)
	in := []int{g.Data, 4096, 8192, 12288}
	for holds := range 4 {
		for known := range 16 {
			what := fmt.Sprintf("free in %d, put %04b", holds, known)
			d, x := begun(t, g, onlyFree(in[holds]))
			for k := range 4 {
				if known>>k&1 == 1 {
					b, _ := x.Read(98 + k)
					mustPut(t, x, 98+k, b)
				}
			}
			d.Crash(nil)
			upTo := 1<<(holds+1) - 1
			for k := range 4 {
				if i := in[k]; known>>k&1 == 1 {
					wantUsed(t, "P9.3: "+what, x, g, i, k != holds)
				} else {
					wantNoUsed(t, "P9.3: "+what, x, g, i, api.ErrDown)
					wantGive(t, "P9.2: "+what, x, g, i, api.ErrDown)
				}
			}
			if known == 15 {
				wantFree(t, "P9.4: "+what, x, g, 1)
			} else {
				still(t, "P9.4: "+what, d, x, g, func() { wantNoFree(t, "P9.4: "+what, x, g, api.ErrDown) })
			}
			if known&upTo == upTo {
				wantTake(t, "P9.1: "+what, x, g, in[holds])
				wantUsed(t, "P9.1: "+what, x, g, in[holds], true)
				wantGive(t, "P9.2: "+what, x, g, in[holds], api.OK)
				wantGive(t, "P9.2: "+what, x, g, in[holds], api.ErrFree)
			} else {
				still(t, "P9.1: "+what, d, x, g, func() { wantNoTake(t, "P9.1: "+what, x, g, api.ErrDown) })
			}
		}
	}
}

// P9.1: with all of the bitmap put and none free ErrSpace is told though the power is out; with a part of it ErrDown.
func TestNoneFreeWithThePowerOut(t *testing.T) {
	g := laid(t, 4200)
	for known, code := range []api.Errno{api.ErrDown, api.ErrDown, api.ErrSpace} {
		d, x := begun(t, g, onlyFree())
		for k := range known {
			mustPut(t, x, 98+k, full(0xFF))
		}
		d.Crash(nil)
		still(t, "P9.1: down", d, x, g, func() { wantNoTake(t, "P9.1: down", x, g, code) })
	}
}

// P9.5: a transaction that is over, by either end, whatever was put in it.
func TestOver(t *testing.T) {
	for _, n := range lengths {
		g := laid(t, n)
		for _, how := range []string{"Abort", "Commit", "a cut Commit"} {
			d, x := begun(t, g, allFree(g))
			wantTake(t, "P9.5", x, g, g.Data)
			switch how {
			case "Abort":
				x.Abort()
			case "Commit":
				want(t, how, x.Commit(), api.OK)
			default:
				d.Arm(api.Crash{At: 2})
				want(t, how, x.Commit(), api.ErrDown)
			}
			what := fmt.Sprintf("P9.5: over by %s, %d blocks", how, n)
			still(t, what, d, x, g, func() {
				wantNoTake(t, what, x, g, api.ErrOver)
				wantNoFree(t, what, x, g, api.ErrOver)
				for _, i := range []int{g.Data, g.Data + 1, n - 1} {
					wantGive(t, what, x, g, i, api.ErrOver)
					wantNoUsed(t, what, x, g, i, api.ErrOver)
				}
				for _, i := range ahead(g) {
					wantGive(t, what, x, g, i, api.ErrFree)
					wantNoUsed(t, what, x, g, i, api.ErrOver)
				}
				for _, i := range outside(g) {
					wantGive(t, what, x, g, i, api.ErrFree)
					wantNoUsed(t, what, x, g, i, api.ErrBlock)
				}
			})
		}
	}
}

// P9.3, P9.4, P9.5: Used and Free put nothing, at any arguments, and have no step.
func TestQuestionsPutNothing(t *testing.T) {
	g := laid(t, 4200)
	d, x := begun(t, g, func(k int) bool { return k%3 == 0 })
	wantTake(t, "P9.1", x, g, g.Data+1)
	still(t, "P9.5", d, x, g, func() {
		for i := -3; i < g.Blocks+3; i++ {
			space.Used(x, g, i)
		}
		for _, i := range outside(g) {
			space.Used(x, g, i)
		}
		space.Free(x, g)
	})
}

// P9.5: what is put of a call is undone by Back, whichever of its puts it has, and a call behind that answers as before.
func TestBack(t *testing.T) {
	g := laid(t, 4200)
	d, x := begun(t, g, onlyFree(200, 4099, 4199))
	var marks []int
	var sights []string
	does := []func(){
		func() { wantTake(t, "Back", x, g, 200) },
		func() { wantTake(t, "Back", x, g, 4099) },
		func() { wantGive(t, "Back", x, g, 200, api.OK) },
		func() { wantTake(t, "Back", x, g, 200) },
		func() { wantTake(t, "Back", x, g, 4199) },
		func() { wantGive(t, "Back", x, g, 4000, api.OK) },
	}
	for _, do := range does {
		m, _ := x.Mark()
		marks, sights = append(marks, m), append(sights, sight(x, g))
		do()
	}
	for k := len(does) - 1; k >= 0; k-- {
		want(t, "Back", x.Back(marks[k]), api.OK)
		if sight(x, g) != sights[k] {
			t.Errorf("Back ahead of call %d leaves another sight", k)
		}
		does[k]()
		want(t, "Back", x.Back(marks[k]), api.OK)
	}
	want(t, "Commit", x.Commit(), api.OK)
	if w, f := d.Steps(); w != 0 || f != 0 {
		t.Errorf("all went back, and there are %d, %d steps", w, f)
	}
}

// P9.1, P9.2: what a commit leaves is what the next transaction sees.
func TestCommitted(t *testing.T) {
	g := laid(t, 4200)
	d, x := begun(t, g, onlyFree(200, 4199))
	wantTake(t, "committed", x, g, 200)
	wantTake(t, "committed", x, g, 4199)
	wantGive(t, "committed", x, g, 4098, api.OK)
	want(t, "Commit", x.Commit(), api.OK)
	x = txn.Begin(d)
	wantFree(t, "the next one", x, g, 1)
	wantBits(t, "the next one", x, g, onlyFree(4098))
	wantRead(t, "the next one", x, 200, make([]byte, size))
	wantRead(t, "the next one", x, 4199, make([]byte, size))
	wantRead(t, "the next one", x, 4098, full(7))
	wantTake(t, "the next one", x, g, 4098)
	x.Abort()
	x = txn.Begin(d)
	wantTake(t, "behind one let go", x, g, 4098)
}
