package txn_test

import (
	"bytes"
	"fmt"
	"hash/crc32"
	"math"
	"math/rand"
	"slices"
	"testing"

	"bole/adisk"
	"bole/api"
	"bole/txn"
	"bole/wal"
)

const size = api.BlockSize

func full(c byte) []byte { return bytes.Repeat([]byte{c}, size) }

func fresh(t *testing.T, n int) *adisk.Disk {
	t.Helper()
	d, e := adisk.New(n)
	if e != api.OK {
		t.Fatalf("a disk of %d blocks: %d", n, e)
	}
	return d
}

func opened(t *testing.T, image []byte) *adisk.Disk {
	t.Helper()
	d, e := adisk.Open(image)
	if e != api.OK {
		t.Fatalf("a disk of %d bytes: %d", len(image), e)
	}
	return d
}

// noise is an image of n blocks with an empty log, all its other bytes being any.
func noise(seed int64, n int) []byte {
	image := make([]byte, n*size)
	rand.New(rand.NewSource(seed)).Read(image)
	if n > 1 {
		clear(image[size : 2*size])
	}
	return image
}

// block is the bytes of block i of an image.
func block(image []byte, i int) []byte { return image[i*size : (i+1)*size] }

func tell(acts []api.Act) string {
	text := ""
	for _, a := range acts {
		if a.Kind == api.ActFlush {
			text += " flush"
		} else {
			text += fmt.Sprintf(" %d:%x", a.Block, crc32.ChecksumIEEE(a.Bytes))
		}
	}
	return text
}

// state is all that a disk tells of itself.
func state(d *adisk.Disk) string {
	w, f := d.Steps()
	return fmt.Sprint(d.Blocks(), d.Down(), w, f, d.Pending(), crc32.ChecksumIEEE(d.Image()), tell(d.Tape(0)))
}

func wantState(t *testing.T, what string, d *adisk.Disk, want string) {
	t.Helper()
	if s := state(d); s != want {
		t.Errorf("%s: the disk is %s, want %s", what, s, want)
	}
}

func wantSteps(t *testing.T, what string, d *adisk.Disk, writes, flushes int) {
	t.Helper()
	if w, f := d.Steps(); w != writes || f != flushes {
		t.Errorf("%s: %d writes, %d flushes, want %d, %d", what, w, f, writes, flushes)
	}
}

func want(t *testing.T, what string, e, code api.Errno) {
	t.Helper()
	if e != code {
		t.Errorf("%s: %d, want %d", what, e, code)
	}
}

// reader is a disk or a transaction.
type reader interface {
	Read(i int) ([]byte, api.Errno)
}

func wantRead(t *testing.T, what string, x reader, i int, bytesOf []byte) {
	t.Helper()
	if b, e := x.Read(i); e != api.OK || !bytes.Equal(b, bytesOf) {
		t.Errorf("%s: Read(%d): %d, or other bytes", what, i, e)
	}
}

func wantNoRead(t *testing.T, what string, x reader, i int, code api.Errno) {
	t.Helper()
	if b, e := x.Read(i); e != code || len(b) != 0 {
		t.Errorf("%s: Read(%d): %d bytes, %d, want none, %d", what, i, len(b), e, code)
	}
}

func wantWritten(t *testing.T, what string, x *txn.Txn, nums ...int) {
	t.Helper()
	if w := x.Written(); !slices.Equal(w, nums) {
		t.Errorf("%s: Written: %v, want %v", what, w, nums)
	}
}

func wantMark(t *testing.T, what string, x *txn.Txn, mark int) {
	t.Helper()
	if m, e := x.Mark(); m != mark || e != api.OK {
		t.Errorf("%s: Mark: %d, %d, want %d", what, m, e, mark)
	}
}

func wantOver(t *testing.T, what string, x *txn.Txn, over bool) {
	t.Helper()
	if x.Over() != over {
		t.Errorf("%s: Over: %v", what, !over)
	}
}

// mustPut puts full blocks, one behind the other.
func mustPut(t *testing.T, x *txn.Txn, c byte, nums ...int) {
	t.Helper()
	for _, i := range nums {
		if e := x.Write(i, full(c)); e != api.OK {
			t.Fatalf("Write(%d): %d", i, e)
		}
	}
}

// wantAllOver holds what every call answers on a transaction that is over, at arguments right and wrong, and that the disk isn't touched.
func wantAllOver(t *testing.T, what string, x *txn.Txn, d *adisk.Disk) {
	t.Helper()
	before := state(d)
	for _, i := range []int{math.MinInt, -1, 0, 97, 98, 99, d.Blocks() - 1, d.Blocks(), math.MaxInt} {
		wantNoRead(t, what, x, i, api.ErrOver)
		for _, b := range [][]byte{nil, make([]byte, 511), full('z'), make([]byte, 513)} {
			want(t, fmt.Sprintf("%s: Write(%d) of %d bytes", what, i, len(b)), x.Write(i, b), api.ErrOver)
		}
	}
	for _, mark := range []int{math.MinInt, -1, 0, 1, 2, 96, math.MaxInt} {
		want(t, fmt.Sprintf("%s: Back(%d)", what, mark), x.Back(mark), api.ErrOver)
	}
	if m, e := x.Mark(); m != 0 || e != api.ErrOver {
		t.Errorf("%s: Mark: %d, %d", what, m, e)
	}
	want(t, what+": Commit", x.Commit(), api.ErrOver)
	wantWritten(t, what, x)
	wantOver(t, what, x, true)
	x.Abort()
	wantOver(t, what+", and Abort", x, true)
	want(t, what+": Commit behind Abort", x.Commit(), api.ErrOver)
	wantState(t, what, d, before)
}

// sight is all that a transaction that is under way tells of itself, block by block.
func sight(x *txn.Txn, d *adisk.Disk) string {
	m, e := x.Mark()
	text := fmt.Sprint(m, e, x.Written(), x.Over())
	for i := range d.Blocks() {
		b, e := x.Read(i)
		text += fmt.Sprintf(" %d:%x", e, crc32.ChecksumIEEE(b))
	}
	return text
}

// wantSight also holds that nothing has been done to the disk.
func wantSight(t *testing.T, what string, x *txn.Txn, d *adisk.Disk, before, disk string) {
	t.Helper()
	if now := sight(x, d); now != before {
		t.Errorf("%s: the transaction has changed", what)
	}
	wantState(t, what, d, disk)
}

// P6.1: on disks of any size, up and down, with something pending and armed.
func TestBegin(t *testing.T) {
	for _, n := range []int{1, 2, 97, 98, 99, 120, api.MaxDisk} {
		for _, down := range []bool{false, true} {
			what := fmt.Sprintf("P6.1: %d blocks, down %v", n, down)
			d := fresh(t, n)
			want(t, what, d.Write(n-1, full('p')), api.OK)
			d.Arm(api.Crash{At: 1})
			if down {
				d.Crash([]bool{true})
			}
			before := state(d)
			x := txn.Begin(d)
			wantOver(t, what, x, false)
			wantMark(t, what, x, 0)
			wantWritten(t, what, x)
			want(t, what+": Back(0)", x.Back(0), api.OK)
			want(t, what+": Back(1)", x.Back(1), api.ErrMark)
			wantState(t, what, d, before)
		}
	}
}

// P6.1: one transaction has nothing of another one, neither of a disk's last nor of another disk's.
func TestBeginAnew(t *testing.T) {
	d, other := fresh(t, 120), fresh(t, 120)
	x, y := txn.Begin(d), txn.Begin(other)
	mustPut(t, x, 'A', 98, 99)
	wantWritten(t, "P6.1: another disk's", y)
	wantMark(t, "P6.1: another disk's", y, 0)
	wantRead(t, "P6.1: another disk's", y, 98, full(0))
	x.Abort()
	wantOver(t, "P6.1: another disk's", y, false)
	x = txn.Begin(d)
	wantWritten(t, "P6.1: behind one let go", x)
	wantMark(t, "P6.1: behind one let go", x, 0)
	wantRead(t, "P6.1: behind one let go", x, 98, full(0))
}

// P6.2: blocks that aren't put are what the disk tells, pending ones too; and those outside are none.
func TestReadOfTheDisk(t *testing.T) {
	for _, n := range []int{1, 97, 98, 99, 120} {
		image, what := noise(int64(n), n), fmt.Sprintf("P6.2: %d blocks", n)
		d := opened(t, image)
		d.Write(n-1, full('p'))
		d.Arm(api.Crash{At: 1})
		before := state(d)
		x := txn.Begin(d)
		for i := range n - 1 {
			wantRead(t, what, x, i, block(image, i))
		}
		wantRead(t, what+", pending", x, n-1, full('p'))
		for _, i := range []int{math.MinInt, -n, -1, n, n + 1, 1 << 40, math.MaxInt} {
			wantNoRead(t, what, x, i, api.ErrBlock)
		}
		wantState(t, what, d, before)
		wantMark(t, what, x, 0)
		wantWritten(t, what, x)
	}
}

// P6.2: a block that is put has the bytes of its last Write, and no other block has them.
func TestReadOfWhatIsPut(t *testing.T) {
	image := noise(1, 120)
	d := opened(t, image)
	before := state(d)
	x := txn.Begin(d)
	for k, i := range []int{98, 119, 98, 100, 98} {
		mustPut(t, x, byte('A'+k), i)
		wantRead(t, "P6.2: just put", x, i, full(byte('A'+k)))
	}
	for i, b := range map[int][]byte{97: block(image, 97), 98: full('E'), 99: block(image, 99), 100: full('D'), 101: block(image, 101), 118: block(image, 118), 119: full('B')} {
		wantRead(t, "P6.2", x, i, b)
	}
	wantRead(t, "P6.2: the disk's", d, 98, block(image, 98))
	b := noise(2, 1)
	want(t, "P6.2: any bytes", x.Write(101, b), api.OK)
	wantRead(t, "P6.2: any bytes", x, 101, b)
	wantState(t, "P6.2", d, before)
}

// P6.2: the order of the errors, with the power out: ErrOver, ErrBlock, what is put, ErrDown.
func TestReadWithThePowerOut(t *testing.T) {
	d := fresh(t, 120)
	d.Write(99, full('p'))
	x := txn.Begin(d)
	mustPut(t, x, 'A', 98)
	d.Crash([]bool{true})
	wantRead(t, "P6.2: put, down", x, 98, full('A'))
	for _, i := range []int{0, 1, 97, 99, 119} {
		wantNoRead(t, "P6.2: down", x, i, api.ErrDown)
	}
	for _, i := range []int{-1, 120, math.MaxInt, math.MinInt} {
		wantNoRead(t, "P6.2: down, outside", x, i, api.ErrBlock)
	}
	wantMark(t, "P6.2: down", x, 1)
	want(t, "P6.2: Back, down", x.Back(0), api.OK)
	wantNoRead(t, "P6.2: put no more, down", x, 98, api.ErrDown)
	x.Abort()
	wantAllOver(t, "P6.2: over, down", x, d)
}

// P6.3: what is refused, in the order of the errors; each also on a disk that is down.
func TestWriteRefuses(t *testing.T) {
	for _, n := range []int{1, 97, 98, 99, 120} {
		for _, down := range []bool{false, true} {
			d := fresh(t, n)
			d.Arm(api.Crash{At: 1})
			if down {
				d.Crash(nil)
			}
			x := txn.Begin(d)
			before, disk := sight(x, d), state(d)
			for _, i := range []int{math.MinInt, -98, -1, 0, 1, 2, 97, n, n + 1, 1 << 32, 1<<32 + 98, math.MaxInt} {
				if i >= 98 && i < n {
					continue
				}
				for _, length := range []int{0, 3, 511, 512, 513} {
					want(t, fmt.Sprintf("P6.3: %d of %d, %d bytes", i, n, length), x.Write(i, make([]byte, length)), api.ErrBlock)
				}
			}
			for _, i := range []int{98, n - 1} {
				for _, length := range []int{0, 1, 511, 513, 1024} {
					if i < n && i >= 98 {
						want(t, fmt.Sprintf("P6.3: %d of %d, %d bytes", i, n, length), x.Write(i, make([]byte, length)), api.ErrSize)
					}
				}
			}
			want(t, "P6.3: no bytes", x.Write(n, nil), api.ErrBlock)
			wantSight(t, fmt.Sprintf("P6.3, P6.8: %d blocks, down %v", n, down), x, d, before, disk)
		}
	}
}

// P6.3: the first and the last block that may be put, at the edges of a disk's size; the disk isn't asked.
func TestWriteAtTheEnds(t *testing.T) {
	for _, n := range []int{99, 100, 128, api.MaxDisk} {
		for _, down := range []bool{false, true} {
			what := fmt.Sprintf("P6.3: %d blocks, down %v", n, down)
			d := fresh(t, n)
			d.Arm(api.Crash{At: 1})
			if down {
				d.Crash(nil)
			}
			before := state(d)
			x := txn.Begin(d)
			want(t, what, x.Write(98, full('A')), api.OK)
			want(t, what, x.Write(n-1, full('B')), api.OK)
			wantRead(t, what, x, n-1, full('B'))
			wantMark(t, what, x, 2)
			wantState(t, what, d, before)
		}
	}
}

// P6.3: a block is put whether or not its bytes change.
func TestWriteOfTheSameBytes(t *testing.T) {
	image := noise(1, 120)
	d := opened(t, image)
	x := txn.Begin(d)
	want(t, "P6.3: as on the disk", x.Write(100, block(image, 100)), api.OK)
	want(t, "P6.3: as on the disk", x.Write(100, block(image, 100)), api.OK)
	wantWritten(t, "P6.3: as on the disk", x, 100)
	wantMark(t, "P6.3: as on the disk", x, 2)
	want(t, "P6.6: as on the disk", x.Commit(), api.OK)
	wantSteps(t, "P6.6: as on the disk", d, 4, 4)
	x = txn.Begin(fresh(t, 120))
	mustPut(t, x, 0, 119)
	wantWritten(t, "P6.3: zeros", x, 119)
}

// wantFull holds what a transaction answers of which 96 blocks are put: 98, 100, 102 and so on.
func wantFull(t *testing.T, what string, x *txn.Txn, d *adisk.Disk) {
	t.Helper()
	before, disk := sight(x, d), state(d)
	for _, i := range []int{99, 101, 289, 299} {
		want(t, fmt.Sprintf("%s: one more, %d", what, i), x.Write(i, full('z')), api.ErrTooBig)
		want(t, what+": one more of 511", x.Write(i, make([]byte, 511)), api.ErrSize)
		want(t, what+": one more of 513", x.Write(i, make([]byte, 513)), api.ErrSize)
	}
	want(t, what+": outside", x.Write(300, full('z')), api.ErrBlock)
	want(t, what+": outside", x.Write(97, full('z')), api.ErrBlock)
	want(t, what+": again of 513", x.Write(98, make([]byte, 513)), api.ErrSize)
	wantSight(t, what, x, d, before, disk)
}

// fill puts 96 blocks, 98, 100, 102 and so on, in any order.
func fill(t *testing.T, x *txn.Txn, seed int64) []int {
	t.Helper()
	var nums []int
	for _, k := range rand.New(rand.NewSource(seed)).Perm(api.LogMax) {
		nums = append(nums, 98+2*k)
		mustPut(t, x, byte(k), 98+2*k)
	}
	return nums
}

// P6.3, P6.5: the ninety-seventh block, one of the 96 again, and room again behind a Back.
func TestWriteOfTooMany(t *testing.T) {
	d := fresh(t, 300)
	x := txn.Begin(d)
	nums := fill(t, x, 1)
	wantFull(t, "P6.3", x, d)
	for k, i := range nums {
		want(t, "P6.3: one of the 96 again", x.Write(i, full(byte(k))), api.OK)
		wantRead(t, "P6.3: one of the 96 again", x, i, full(byte(k)))
	}
	wantMark(t, "P6.3: the 96 twice", x, 192)
	wantFull(t, "P6.3: the 96 twice", x, d)
	want(t, "P6.5: Back to the 96", x.Back(96), api.OK)
	wantFull(t, "P6.5: Back to the 96", x, d)
	want(t, "P6.5: Back to 95", x.Back(95), api.OK)
	want(t, "P6.3: room again", x.Write(299, full('z')), api.OK)
	want(t, "P6.3: and no more", x.Write(nums[95], full('z')), api.ErrTooBig)
	want(t, "P6.5: Back to 10", x.Back(10), api.OK)
	for k := range 86 {
		want(t, "P6.3: room for 86", x.Write(99+2*k, full('y')), api.OK)
	}
	want(t, "P6.3: and no more", x.Write(99+2*86, full('z')), api.ErrTooBig)
	wantSteps(t, "P6.3", d, 0, 0)
	want(t, "P6.6", x.Commit(), api.OK)
	wantSteps(t, "P6.6", d, 194, 4)
	wantRead(t, "P6.6", d, 99+2*85, full('y'))
	wantRead(t, "P6.6: what was refused", d, 299, full(0))
}

// P6.3: as many Writes of one block as one likes; how many blocks are put counts, not how many Writes.
func TestWriteOften(t *testing.T) {
	d := fresh(t, 300)
	x := txn.Begin(d)
	for k := range 5000 {
		mustPut(t, x, byte(k), 98+k%3)
	}
	wantMark(t, "P6.3: 5000 Writes", x, 5000)
	wantWritten(t, "P6.3: 5000 Writes", x, 98, 99, 100)
	for _, mark := range []int{4999, 4000, 3999, 257, 4, 3, 2, 1} {
		want(t, "P6.5", x.Back(mark), api.OK)
		wantMark(t, "P6.5", x, mark)
		for k := mark - 1; k >= max(mark-3, 0); k-- {
			wantRead(t, fmt.Sprintf("P6.5: back to %d", mark), x, 98+k%3, full(byte(k)))
		}
	}
	wantWritten(t, "P6.5: back to 1", x, 98)
}

// P6.4: rising and each once, whatever the order of the Writes; it changes nothing.
func TestWritten(t *testing.T) {
	for seed := range int64(20) {
		d := fresh(t, 300)
		x := txn.Begin(d)
		nums := fill(t, x, seed)
		mustPut(t, x, 'z', nums[3], nums[0], nums[3])
		slices.Sort(nums)
		wantWritten(t, "P6.4", x, nums...)
		wantWritten(t, "P6.4: again", x, nums...)
		wantMark(t, "P6.4", x, 99)
		wantSteps(t, "P6.4", d, 0, 0)
	}
}

// P6.5: marks below 0 and above the row, ones within others, gone back to twice; Mark and Back have no step.
func TestMarks(t *testing.T) {
	image := noise(1, 120)
	d := opened(t, image)
	disk := state(d)
	x := txn.Begin(d)
	var sights []string
	for k, i := range []int{98, 98, 99, 119, 98, 99, 99, 100, 98} {
		sights = append(sights, sight(x, d))
		wantMark(t, "P6.5", x, k)
		mustPut(t, x, byte('A'+k), i)
	}
	whole := sight(x, d)
	for _, mark := range []int{math.MinInt, -2, -1, 10, 11, math.MaxInt} {
		want(t, fmt.Sprintf("P6.5: Back(%d)", mark), x.Back(mark), api.ErrMark)
		wantSight(t, fmt.Sprintf("P6.5, P6.8: Back(%d)", mark), x, d, whole, disk)
	}
	want(t, "P6.5: Back to where it is", x.Back(9), api.OK)
	wantSight(t, "P6.5: Back to where it is", x, d, whole, disk)
	for _, mark := range []int{8, 5, 4, 2, 1, 0} {
		for _, what := range []string{"once", "twice"} {
			want(t, fmt.Sprintf("P6.5: Back(%d), %s", mark, what), x.Back(mark), api.OK)
			wantSight(t, fmt.Sprintf("P6.5: Back(%d), %s", mark, what), x, d, sights[mark], disk)
		}
		want(t, "P6.5: a mark that is gone", x.Back(mark+1), api.ErrMark)
		want(t, "P6.5: a mark that is gone", x.Back(9), api.ErrMark)
		want(t, "P6.5: below 0", x.Back(-1), api.ErrMark)
		wantSight(t, "P6.5, P6.8: a mark that is gone", x, d, sights[mark], disk)
	}
	for i := range 120 {
		wantRead(t, "P6.5: all undone", x, i, block(image, i))
	}
	want(t, "P6.6: all undone", x.Commit(), api.OK)
	wantState(t, "P6.6: all undone", d, disk)
}

// P6.5: a mark gone back to, with other Writes behind it each time: the number counts, not when it was told.
func TestBackAndOn(t *testing.T) {
	x := txn.Begin(fresh(t, 120))
	mustPut(t, x, 'A', 98, 99)
	mark, _ := x.Mark()
	for k := range 5 {
		mustPut(t, x, byte('a'+k), 98, 100+k, 98)
		inner, _ := x.Mark()
		mustPut(t, x, 'z', 99, 110)
		want(t, "P6.5: the inner mark", x.Back(inner), api.OK)
		wantWritten(t, "P6.5: the inner mark", x, 98, 99, 100+k)
		wantRead(t, "P6.5: the inner mark", x, 98, full(byte('a'+k)))
		wantRead(t, "P6.5: the inner mark", x, 99, full('A'))
		want(t, "P6.5: the outer mark", x.Back(mark), api.OK)
		want(t, "P6.5: the inner mark, gone", x.Back(inner), api.ErrMark)
		wantWritten(t, "P6.5: the outer mark", x, 98, 99)
		wantRead(t, "P6.5: the outer mark", x, 98, full('A'))
		wantRead(t, "P6.5: the outer mark", x, 110, full(0))
	}
	mustPut(t, x, 'n', 101, 102, 103)
	want(t, "P6.5: a number is a mark", x.Back(4), api.OK)
	wantWritten(t, "P6.5: a number is a mark", x, 98, 99, 101, 102)
}

// P6.5: with the power out marks are as ever.
func TestMarksWithThePowerOut(t *testing.T) {
	d := fresh(t, 120)
	x := txn.Begin(d)
	mustPut(t, x, 'A', 98)
	d.Crash(nil)
	mustPut(t, x, 'B', 98, 99)
	before := state(d)
	wantMark(t, "P6.5: down", x, 3)
	want(t, "P6.5: down", x.Back(4), api.ErrMark)
	want(t, "P6.5: down", x.Back(1), api.OK)
	wantRead(t, "P6.5: down", x, 98, full('A'))
	wantWritten(t, "P6.5: down", x, 98)
	wantState(t, "P6.5: down", d, before)
}

// P6.6: the steps of commits of every length, whatever the order of the Writes, and what lasts.
func TestCommitSteps(t *testing.T) {
	r := rand.New(rand.NewSource(6))
	for n := 1; n <= api.LogMax; n++ {
		what := fmt.Sprintf("P6.6: %d blocks", n)
		image := noise(int64(n), 98+2*n)
		d, plain := opened(t, image), opened(t, image)
		x := txn.Begin(d)
		l := make([]api.Block, n)
		for _, k := range r.Perm(n) {
			l[k] = api.Block{Num: 98 + 2*k + r.Intn(2), Bytes: full(byte(k))}
			mustPut(t, x, 'o', l[k].Num)
			want(t, what, x.Write(l[k].Num, l[k].Bytes), api.OK)
		}
		want(t, what, x.Commit(), api.OK)
		wantSteps(t, what, d, 2*n+2, 4)
		tape := d.Tape(0)
		for k, b := range l {
			if a := tape[k]; a.Block != 2+k || !bytes.Equal(a.Bytes, b.Bytes) {
				t.Errorf("%s: step %d isn't of the log's data", what, k+1)
			}
			if a := tape[n+3+k]; a.Block != b.Num || !bytes.Equal(a.Bytes, b.Bytes) {
				t.Errorf("%s: step %d isn't of block %d", what, n+4+k, b.Num)
			}
			copy(image[b.Num*size:], b.Bytes)
		}
		want(t, what, wal.Commit(plain, l), api.OK)
		wantState(t, what, d, state(plain))
		if !bytes.Equal(d.Image()[98*size:], image[98*size:]) || len(d.Pending()) != 0 {
			t.Errorf("%s: other bytes last, or some are pending", what)
		}
		wantAllOver(t, what, x, d)
	}
}

// P6.6: of nothing, in all the ways in which nothing can be put.
func TestCommitOfNothing(t *testing.T) {
	for what, does := range map[string]func(x *txn.Txn){
		"at once":               func(x *txn.Txn) {},
		"behind reads":          func(x *txn.Txn) { x.Read(98); x.Written(); x.Mark() },
		"behind refused Writes": func(x *txn.Txn) { x.Write(97, full(1)); x.Write(98, nil); x.Write(120, full(1)) },
		"all undone":            func(x *txn.Txn) { x.Write(98, full(1)); x.Write(99, full(1)); x.Back(0) },
	} {
		for _, down := range []bool{false, true} {
			d := fresh(t, 120)
			d.Write(5, full('p'))
			d.Arm(api.Crash{At: 1})
			if down {
				d.Crash(nil)
			}
			before := state(d)
			x := txn.Begin(d)
			does(x)
			want(t, "P6.6: nothing, "+what, x.Commit(), api.OK)
			wantState(t, "P6.6: nothing, "+what, d, before)
			wantAllOver(t, "P6.6: nothing, "+what, x, d)
		}
	}
}

// P6.6: with the power out ahead of it.
func TestCommitWithThePowerOut(t *testing.T) {
	for n := 1; n <= 3; n++ {
		d := fresh(t, 120)
		x := txn.Begin(d)
		for k := range n {
			mustPut(t, x, 'A', 98+k)
		}
		d.Crash(nil)
		before := state(d)
		wantOver(t, "P6.6: down", x, false)
		want(t, "P6.6: down", x.Commit(), api.ErrDown)
		wantState(t, "P6.6: down", d, before)
		wantAllOver(t, "P6.6: down", x, d)
	}
}

// P6.6: transactions one behind the other, each of which sees what those before it left.
func TestCommitsInARow(t *testing.T) {
	d := fresh(t, 120)
	writes := 0
	for k := range 10 {
		x := txn.Begin(d)
		for i := 98; i < 98+k; i++ {
			wantRead(t, "P6.2: what the last one left", x, i, full(byte(k-1)))
		}
		wantRead(t, "P6.2: what none has put", x, 98+k, full(0))
		for i := 98 + k; i >= 98; i-- {
			mustPut(t, x, byte(k), i)
		}
		want(t, "P6.6: in a row", x.Commit(), api.OK)
		writes += 2*(k+1) + 2
		wantSteps(t, "P6.6: in a row", d, writes, 4*(k+1))
	}
}

// P6.7: Abort has no step, of whatever is put, and leaves nothing.
func TestAbort(t *testing.T) {
	for n := range 4 {
		for _, down := range []bool{false, true} {
			what := fmt.Sprintf("P6.7: %d blocks, down %v", n, down)
			image := noise(int64(n), 120)
			d := opened(t, image)
			x := txn.Begin(d)
			for k := range n {
				mustPut(t, x, 'A', 98+k)
			}
			wantOver(t, what, x, false)
			if down {
				d.Crash(nil)
			}
			before := state(d)
			x.Abort()
			wantOver(t, what, x, true)
			wantState(t, what, d, before)
			wantAllOver(t, what, x, d)
			if !bytes.Equal(d.Image(), image) {
				t.Errorf("%s: other bytes last", what)
			}
		}
	}
}

// P6.7: nothing but Commit and Abort ends a transaction.
func TestNotOver(t *testing.T) {
	d := fresh(t, 120)
	x := txn.Begin(d)
	for what, does := range map[string]func(){
		"Write":           func() { x.Write(98, full('A')) },
		"a refused Write": func() { x.Write(97, full('A')) },
		"Read":            func() { x.Read(98) },
		"a refused Read":  func() { x.Read(120) },
		"Mark":            func() { x.Mark() },
		"Back":            func() { x.Back(0) },
		"a refused Back":  func() { x.Back(-1) },
		"Written":         func() { x.Written() },
		"Over":            func() { x.Over() },
		"a power cut":     func() { d.Crash(nil) },
	} {
		does()
		wantOver(t, "P6.7: "+what, x, false)
	}
}

// spoil changes bytes, and the room behind them.
func spoil(b []byte) {
	b = b[:cap(b)]
	for i := range b {
		b[i] ^= 255
	}
}

// P6.3: bytes that the caller changes behind a Write; they are taken as they are at it, nor are they or the room behind them changed.
func TestWriteKeepsNothing(t *testing.T) {
	d := fresh(t, 120)
	x := txn.Begin(d)
	room := bytes.Repeat([]byte{'A'}, size+40)
	b := room[:size]
	want(t, "P6.3", x.Write(98, b), api.OK)
	clear(room)
	wantRead(t, "P6.3: changed behind the Write", x, 98, full('A'))
	want(t, "P6.3: one memory, again", x.Write(99, b), api.OK)
	want(t, "P6.3: one memory, again", x.Write(98, b), api.OK)
	copy(b, full('C'))
	want(t, "P6.3: one memory, again", x.Write(98, b), api.OK)
	x.Write(97, b)
	x.Write(99, room)
	if !bytes.Equal(room, append(full('C'), make([]byte, 40)...)) {
		t.Errorf("P6.3: the caller's bytes were changed")
	}
	spoil(b)
	wantRead(t, "P6.3: one memory", x, 98, full('C'))
	wantRead(t, "P6.3: one memory", x, 99, full(0))
	want(t, "P6.5", x.Back(2), api.OK)
	wantRead(t, "P6.5: one memory", x, 98, full('A'))
	want(t, "P6.6", x.Commit(), api.OK)
	before := state(d)
	spoil(b)
	wantState(t, "P6.6: changed behind the Commit", d, before)
	wantRead(t, "P6.6", d, 98, full('A'))
}

// P6.2: answers of Read that are changed behind the call, of blocks that are put and others, and of ones that Back puts back.
func TestReadIsNewMemory(t *testing.T) {
	image := noise(1, 120)
	d := opened(t, image)
	d.Write(101, full('p'))
	x := txn.Begin(d)
	mustPut(t, x, 'A', 98)
	mustPut(t, x, 'B', 99)
	for i, b := range map[int][]byte{98: full('A'), 99: full('B'), 100: block(image, 100), 101: full('p'), 0: block(image, 0)} {
		one, _ := x.Read(i)
		two, _ := x.Read(i)
		spoil(one)
		if !bytes.Equal(two, b) {
			t.Errorf("P6.2: two answers of Read(%d) share memory", i)
		}
		wantRead(t, "P6.2: behind a change", x, i, b)
		spoil(two)
	}
	mustPut(t, x, 'C', 98)
	one, _ := x.Read(98)
	spoil(one)
	want(t, "P6.5", x.Back(2), api.OK)
	wantRead(t, "P6.5: behind a change", x, 98, full('A'))
	last, _ := x.Read(99)
	want(t, "P6.6", x.Commit(), api.OK)
	spoil(last)
	for i, b := range map[int][]byte{98: full('A'), 99: full('B'), 100: block(image, 100), 101: full('p')} {
		wantRead(t, "P6.6: behind a change", d, i, b)
	}
}

// P6.4: answers of Written that are changed behind the call.
func TestWrittenIsNewMemory(t *testing.T) {
	d := fresh(t, 120)
	x := txn.Begin(d)
	mustPut(t, x, 'A', 103, 98, 119)
	one, two := x.Written(), x.Written()
	one = one[:cap(one)]
	for k := range one {
		one[k] = -7
	}
	if !slices.Equal(two, []int{98, 103, 119}) {
		t.Errorf("P6.4: two answers share memory: %v", two)
	}
	wantWritten(t, "P6.4: behind a change", x, 98, 103, 119)
	if two = append(two, 97); len(two) != 4 {
		t.Fatal("append")
	}
	want(t, "P6.6", x.Commit(), api.OK)
	wantSteps(t, "P6.6", d, 8, 4)
}
