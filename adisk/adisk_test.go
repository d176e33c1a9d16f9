package adisk_test

import (
	"bytes"
	"fmt"
	"math"
	"slices"
	"testing"

	"bole/adisk"
	"bole/api"
)

const (
	size  = api.BlockSize
	least = math.MinInt
	most  = math.MaxInt
)

// full is a block of one byte; 'Z' stands for zeros, as in the chapter's examples.
func full(c byte) []byte {
	if c == 'Z' {
		c = 0
	}
	return bytes.Repeat([]byte{c}, size)
}

// row is an image, a letter a block.
func row(letters string) []byte {
	var b []byte
	for _, c := range []byte(letters) {
		b = append(b, full(c)...)
	}
	return b
}

func write(i int, c byte) api.Act { return api.Act{Kind: api.ActWrite, Block: i, Bytes: full(c)} }

func flush() api.Act { return api.Act{Kind: api.ActFlush} }

func fresh(t *testing.T, n int) *adisk.Disk {
	t.Helper()
	d, e := adisk.New(n)
	if d == nil || e != api.OK {
		t.Fatalf("New(%d): %v, %d", n, d, e)
	}
	return d
}

func opened(t *testing.T, image []byte) *adisk.Disk {
	t.Helper()
	d, e := adisk.Open(image)
	if d == nil || e != api.OK {
		t.Fatalf("Open of %d bytes: %v, %d", len(image), d, e)
	}
	return d
}

func wantErr(t *testing.T, what string, e, want api.Errno) {
	t.Helper()
	if e != want {
		t.Errorf("%s: error %d, want %d", what, e, want)
	}
}

func wantImage(t *testing.T, d *adisk.Disk, letters string) {
	t.Helper()
	if !bytes.Equal(d.Image(), row(letters)) {
		t.Errorf("the image isn't %s", letters)
	}
}

func wantRead(t *testing.T, d *adisk.Disk, i int, c byte) {
	t.Helper()
	b, e := d.Read(i)
	if e != api.OK || !bytes.Equal(b, full(c)) {
		t.Errorf("Read(%d) isn't %c, error %d", i, c, e)
	}
}

func wantSteps(t *testing.T, d *adisk.Disk, writes, flushes int) {
	t.Helper()
	if w, f := d.Steps(); w != writes || f != flushes {
		t.Errorf("Steps: %d, %d, want %d, %d", w, f, writes, flushes)
	}
}

func wantPending(t *testing.T, d *adisk.Disk, want ...int) {
	t.Helper()
	if got := d.Pending(); !slices.Equal(got, want) {
		t.Errorf("Pending: %v, want %v", got, want)
	}
}

func sameAct(a, b api.Act) bool {
	return a.Kind == b.Kind && a.Block == b.Block && bytes.Equal(a.Bytes, b.Bytes)
}

func wantTape(t *testing.T, d *adisk.Disk, from int, want ...api.Act) {
	t.Helper()
	if got := d.Tape(from); !slices.EqualFunc(got, want, sameAct) {
		t.Errorf("Tape(%d): %d acts that are not the %d wanted", from, len(got), len(want))
	}
}

// must carries out a step that has to be taken.
func must(t *testing.T, d *adisk.Disk, a api.Act) {
	t.Helper()
	wantErr(t, "a step", do(d, a), api.OK)
}

func do(d *adisk.Disk, a api.Act) api.Errno {
	if a.Kind == api.ActFlush {
		return d.Flush()
	}
	return d.Write(a.Block, a.Bytes)
}

// state is all that a disk tells of itself, as a text.
func state(d *adisk.Disk) string {
	writes, flushes := d.Steps()
	s := fmt.Sprintf("%d %v %d %d %v %x %v\n", d.Blocks(), d.Down(), writes, flushes, d.Pending(), d.Image(), d.Tape(0))
	for i := range d.Blocks() {
		b, e := d.Read(i)
		s += fmt.Sprintf("%x %d\n", b, e)
	}
	return s
}

// guarded is b with room behind it that no call may touch.
func guarded(b []byte) (all, piece []byte) {
	all = append(bytes.Clone(b), full('g')...)
	return all, all[:len(b)]
}

// P3.1

func TestNewSizes(t *testing.T) {
	for _, n := range []int{least, -16384, -1, 0, api.MaxDisk + 1, 1 << 32, 1 << 55, 1<<55 + 1, 1 << 62, most} {
		if d, e := adisk.New(n); d != nil || e != api.ErrSize {
			t.Errorf("New(%d): %v, %d", n, d, e)
		}
	}
	for _, n := range []int{1, 2, 127, 128, api.MaxDisk - 1, api.MaxDisk} {
		d := fresh(t, n)
		if d.Blocks() != n || !bytes.Equal(d.Image(), make([]byte, n*size)) {
			t.Errorf("New(%d): %d blocks, or not all zeros", n, d.Blocks())
		}
		wantRead(t, d, n-1, 'Z')
		wantNothingDone(t, d)
	}
}

func wantNothingDone(t *testing.T, d *adisk.Disk) {
	t.Helper()
	wantSteps(t, d, 0, 0)
	wantPending(t, d)
	wantTape(t, d, 0)
	if d.Down() {
		t.Error("down from the beginning")
	}
	for range 3 { // nothing is armed
		must(t, d, write(0, 'A'))
		must(t, d, flush())
	}
}

func TestOpenSizes(t *testing.T) {
	for _, n := range []int{0, 1, 511, 513, 1023, 1025, api.MaxDisk*size - 1, api.MaxDisk*size + 1, (api.MaxDisk + 1) * size} {
		if d, e := adisk.Open(make([]byte, n)); d != nil || e != api.ErrSize {
			t.Errorf("Open of %d bytes: %v, %d", n, d, e)
		}
	}
	if d, e := adisk.Open(nil); d != nil || e != api.ErrSize {
		t.Errorf("Open(nil): %v, %d", d, e)
	}
	if d := opened(t, make([]byte, api.MaxDisk*size)); d.Blocks() != api.MaxDisk {
		t.Errorf("Open of MaxDisk blocks: %d", d.Blocks())
	}
	wantNothingDone(t, opened(t, row("A")))
}

func TestOpenBytes(t *testing.T) {
	image := make([]byte, 3*size)
	for i := range image {
		image[i] = byte(i*7 + i/size)
	}
	d := opened(t, image)
	if d.Blocks() != 3 || !bytes.Equal(d.Image(), image) {
		t.Error("not the bytes that were handed in")
	}
	for i := range 3 {
		if b, e := d.Read(i); e != api.OK || !bytes.Equal(b, image[i*size:(i+1)*size]) {
			t.Errorf("block %d is another one, error %d", i, e)
		}
	}
}

func TestDisksHaveNothingInCommon(t *testing.T) {
	all, image := guarded(row("AB"))
	a, b := opened(t, image), opened(t, image)
	must(t, a, write(0, 'C'))
	must(t, a, flush())
	must(t, b, write(1, 'D'))
	wantErr(t, "Arm", b.Arm(api.Crash{At: 1}), api.OK)
	a.Crash(nil)
	wantImage(t, a, "CB")
	wantImage(t, b, "AB")
	wantPending(t, b, 1)
	if b.Down() {
		t.Error("a power cut of one is one of the other")
	}
	if !bytes.Equal(all, append(row("AB"), full('g')...)) {
		t.Error("the image that was handed in has changed")
	}
	all[0], all[size] = 'x', 'x'
	wantImage(t, a, "CB")
	wantImage(t, b, "AB")
	wantRead(t, b, 0, 'A')
}

// P3.2

func TestBlocks(t *testing.T) {
	d := fresh(t, 5)
	must(t, d, write(4, 'A'))
	must(t, d, flush())
	if d.Blocks() != 5 {
		t.Errorf("Blocks: %d", d.Blocks())
	}
	d.Crash(nil)
	if d.Blocks() != 5 {
		t.Errorf("Blocks of a disk that is down: %d", d.Blocks())
	}
}

// outside is numbers that no block of a disk of n blocks has; some of them times 512 are one of its bytes, if an int wraps.
func outside(n int) []int {
	return []int{least, least + 1, -(1 << 55), -n, -1, n, n + 1, 1 << 32, 1 << 55, 1<<55 + 1, 1 << 62, most}
}

// P3.3

func TestReadOutside(t *testing.T) {
	d := fresh(t, 2)
	for _, i := range outside(2) {
		if b, e := d.Read(i); len(b) != 0 || e != api.ErrBlock {
			t.Errorf("Read(%d): %d bytes, error %d", i, len(b), e)
		}
	}
	d.Crash(nil)
	for _, i := range append(outside(2), 0, 1) {
		if b, e := d.Read(i); len(b) != 0 || e != api.ErrDown {
			t.Errorf("Read(%d) of a disk that is down: %d bytes, error %d", i, len(b), e)
		}
	}
}

func TestReadTellsTheLastPendingWrite(t *testing.T) {
	d := opened(t, row("ABZ"))
	must(t, d, write(0, 'C'))
	must(t, d, write(1, 'D'))
	must(t, d, write(0, 'E'))
	wantRead(t, d, 0, 'E')
	wantRead(t, d, 1, 'D')
	wantRead(t, d, 2, 'Z')
	must(t, d, flush())
	wantRead(t, d, 0, 'E')
	wantRead(t, d, 1, 'D')
	must(t, d, write(2, 'F'))
	wantRead(t, d, 0, 'E')
	wantRead(t, d, 1, 'D')
	wantRead(t, d, 2, 'F')
}

func TestReadIsNoStep(t *testing.T) {
	d := opened(t, row("AB"))
	wantErr(t, "Arm", d.Arm(api.Crash{At: 1}), api.OK)
	for range 3 {
		wantRead(t, d, 0, 'A')
	}
	wantSteps(t, d, 0, 0)
	wantTape(t, d, 0)
	wantErr(t, "the first step", d.Write(0, full('C')), api.ErrDown)
}

func TestReadIsNewMemory(t *testing.T) {
	d := opened(t, row("AB"))
	must(t, d, write(0, 'C'))
	for i, c := range []byte("CB") {
		first, _ := d.Read(i)
		second, _ := d.Read(i)
		spoil(first)
		if !bytes.Equal(second, full(c)) {
			t.Errorf("two reads of block %d share memory", i)
		}
		spoil(second)
		wantRead(t, d, i, c)
	}
	wantTape(t, d, 0, write(0, 'C'))
	must(t, d, flush())
	wantImage(t, d, "CB")
}

// spoil changes bytes and the room behind them.
func spoil(b []byte) {
	b = b[:cap(b)]
	for i := range b {
		b[i] = '!'
	}
}

// P3.4

func TestWriteErrors(t *testing.T) {
	d := fresh(t, 2)
	for _, n := range []int{0, 1, 511, 513, 1024} {
		wantErr(t, "Write of not 512 bytes", d.Write(1, make([]byte, n)), api.ErrSize)
		for _, i := range outside(2) {
			wantErr(t, "Write of not 512 bytes outside", d.Write(i, make([]byte, n)), api.ErrBlock)
		}
	}
	wantErr(t, "Write of nil", d.Write(0, nil), api.ErrSize)
	for _, i := range outside(2) {
		wantErr(t, "Write outside", d.Write(i, full('A')), api.ErrBlock)
	}
	d.Crash(nil)
	for _, i := range append(outside(2), 0, 1) {
		wantErr(t, "Write of a disk that is down", d.Write(i, full('A')), api.ErrDown)
		wantErr(t, "Write of no bytes of a disk that is down", d.Write(i, nil), api.ErrDown)
	}
}

func TestWriteIsPending(t *testing.T) {
	d := fresh(t, 2)
	must(t, d, write(0, 'A'))
	wantRead(t, d, 0, 'A')
	wantImage(t, d, "ZZ")
	wantPending(t, d, 0)
	wantSteps(t, d, 1, 0)
	must(t, d, write(1, 'B'))
	must(t, d, write(0, 'A'))
	wantPending(t, d, 0, 1, 0)
	wantSteps(t, d, 3, 0)
	wantImage(t, d, "ZZ")
}

func TestWriteTakesTheBytesAsTheyAre(t *testing.T) {
	d := fresh(t, 2)
	all, b := guarded(full('A'))
	wantErr(t, "Write", d.Write(0, b), api.OK)
	if !bytes.Equal(all, append(full('A'), full('g')...)) {
		t.Error("the bytes that were handed in have changed")
	}
	spoil(b)
	wantRead(t, d, 0, 'A')
	wantTape(t, d, 0, write(0, 'A'))
	must(t, d, flush())
	wantImage(t, d, "AZ")
	if all[0] != '!' || all[size] != '!' {
		t.Error("the bytes that were handed in were kept")
	}
}

// P3.5

func TestFlush(t *testing.T) {
	d := fresh(t, 2)
	wantErr(t, "Flush with nothing pending", d.Flush(), api.OK)
	wantSteps(t, d, 0, 1)
	must(t, d, write(0, 'A'))
	must(t, d, write(1, 'B'))
	must(t, d, write(0, 'C'))
	wantErr(t, "Flush", d.Flush(), api.OK)
	wantImage(t, d, "CB")
	wantPending(t, d)
	wantSteps(t, d, 3, 2)
	wantErr(t, "a second Flush", d.Flush(), api.OK)
	wantImage(t, d, "CB")
	wantSteps(t, d, 3, 3)
	wantTape(t, d, 0, flush(), write(0, 'A'), write(1, 'B'), write(0, 'C'), flush(), flush())
	must(t, d, write(0, 'D'))
	wantPending(t, d, 0)
	d.Crash(nil)
	wantImage(t, d, "CB")
	wantErr(t, "Flush of a disk that is down", d.Flush(), api.ErrDown)
	wantSteps(t, d, 4, 3)
}

// P3.6

func TestArmAtSteps(t *testing.T) {
	acts := []api.Act{write(0, 'A'), flush(), write(1, 'B'), write(0, 'C'), flush(), flush(), write(1, 'D')}
	for at := 1; at <= len(acts); at++ {
		d := fresh(t, 2)
		wantErr(t, "Arm", d.Arm(api.Crash{At: at}), api.OK)
		for k, a := range acts[:at-1] {
			if e := do(d, a); e != api.OK || d.Down() {
				t.Errorf("armed at %d: step %d: error %d", at, k+1, e)
			}
		}
		wantErr(t, "the armed step", do(d, acts[at-1]), api.ErrDown)
		if !d.Down() {
			t.Errorf("armed at %d: not down behind it", at)
		}
	}
}

func TestArmCountsFromNowOn(t *testing.T) {
	d := fresh(t, 2)
	must(t, d, write(0, 'A'))
	must(t, d, flush())
	wantErr(t, "Arm", d.Arm(api.Crash{At: 2, Keep: []bool{true, true}}), api.OK)
	must(t, d, write(0, 'B'))
	wantErr(t, "Arm", d.Arm(api.Crash{At: 2, Keep: []bool{false, true}}), api.OK)
	must(t, d, write(1, 'C'))
	wantErr(t, "the armed step", d.Flush(), api.ErrDown)
	wantImage(t, d, "AC")
}

func TestArmNone(t *testing.T) {
	for _, at := range []int{0, -1, -2, least, most} {
		d := fresh(t, 2)
		wantErr(t, "Arm", d.Arm(api.Crash{At: 1}), api.OK)
		wantErr(t, "Arm", d.Arm(api.Crash{At: at, Keep: []bool{true}}), api.OK)
		for range 5 {
			must(t, d, write(0, 'A'))
			must(t, d, flush())
		}
		wantImage(t, d, "AZ")
		wantErr(t, "Arm", d.Arm(api.Crash{At: 1}), api.OK)
		wantErr(t, "the armed step", d.Flush(), api.ErrDown)
	}
}

func TestArmedFlushWithNothingPending(t *testing.T) {
	d := opened(t, row("AB"))
	wantErr(t, "Arm", d.Arm(api.Crash{At: 1, Keep: []bool{true, true}}), api.OK)
	wantErr(t, "Flush", d.Flush(), api.ErrDown)
	wantImage(t, d, "AB")
	wantSteps(t, d, 0, 1)
	wantTape(t, d, 0)
}

func TestArmTakesKeepAsItIs(t *testing.T) {
	d := fresh(t, 2)
	all := []bool{true, false, true, true}
	keep := all[:2]
	wantErr(t, "Arm", d.Arm(api.Crash{At: 3, Keep: keep}), api.OK)
	all[0], all[1], all[2] = false, true, true
	must(t, d, write(0, 'A'))
	must(t, d, write(1, 'B'))
	wantErr(t, "the armed step", d.Write(1, full('C')), api.ErrDown)
	wantImage(t, d, "AZ")
	if !slices.Equal(all, []bool{false, true, true, true}) {
		t.Error("the list that was handed in has changed")
	}
}

func TestArmOfADiskThatIsDown(t *testing.T) {
	d := fresh(t, 2)
	d.Crash(nil)
	for _, at := range []int{least, -1, 0, 1, 2, most} {
		wantErr(t, "Arm", d.Arm(api.Crash{At: at, Keep: []bool{true}}), api.ErrDown)
	}
	if !d.Down() {
		t.Error("no longer down")
	}
}

// keeps is every Keep of up to n places.
func keeps(n int) [][]bool {
	all := [][]bool{nil}
	for from := 0; len(all[from]) < n; from++ {
		all = append(all, append(slices.Clone(all[from]), false), append(slices.Clone(all[from]), true))
	}
	return all
}

// leaves is what a power cut leaves of an image and pending writes, by the chapter's words.
func leaves(image []byte, pending []api.Act, keep []bool) []byte {
	image = bytes.Clone(image)
	for k, a := range pending {
		if k < len(keep) && keep[k] {
			image = slices.Concat(image[:a.Block*size], a.Bytes, image[(a.Block+1)*size:])
		}
	}
	return image
}

// P3.7

func TestCrashKeeps(t *testing.T) {
	pending := []api.Act{write(0, 'A'), write(1, 'B'), write(0, 'C'), write(2, 'D')}
	for _, keep := range keeps(len(pending) + 2) {
		d := opened(t, row("xyz"))
		must(t, d, write(1, 'Y'))
		must(t, d, flush())
		for _, a := range pending {
			must(t, d, a)
		}
		room := append(slices.Clone(keep), true, true)
		d.Crash(room[:len(keep)])
		if !slices.Equal(room, append(slices.Clone(keep), true, true)) {
			t.Error("the list that was handed in has changed")
		}
		if !bytes.Equal(d.Image(), leaves(row("xYz"), pending, keep)) {
			t.Errorf("Crash(%v) leaves another image", keep)
		}
		if !d.Down() {
			t.Error("not down")
		}
		wantPending(t, d)
		wantSteps(t, d, 5, 1)
		wantTape(t, d, 0, append([]api.Act{write(1, 'Y'), flush()}, pending...)...)
	}
}

func TestCrashOfADiskThatIsDown(t *testing.T) {
	d := fresh(t, 2)
	must(t, d, write(0, 'A'))
	d.Crash(nil)
	before := state(d)
	d.Crash([]bool{true})
	d.Crash(nil)
	if state(d) != before {
		t.Error("a second power cut changes something")
	}
}

func TestCrashWithOneArmed(t *testing.T) {
	d := fresh(t, 2)
	wantErr(t, "Arm", d.Arm(api.Crash{At: 2, Keep: []bool{true, true}}), api.OK)
	must(t, d, write(0, 'A'))
	d.Crash([]bool{false})
	wantImage(t, d, "ZZ")
	wantSteps(t, d, 1, 0)
}

// P3.8

func TestTapeFrom(t *testing.T) {
	d := fresh(t, 2)
	acts := []api.Act{write(0, 'A'), write(1, 'B'), flush(), write(0, 'A')}
	for _, a := range acts {
		must(t, d, a)
	}
	for range 2 {
		for _, from := range []int{least, -5, -1, 0} {
			wantTape(t, d, from, acts...)
		}
		for from := range acts {
			wantTape(t, d, from, acts[from:]...)
		}
		for _, from := range []int{4, 5, 1 << 40, most} {
			wantTape(t, d, from)
		}
		d.Crash(nil) // and the same of a disk that is down
	}
}

func TestAnswersAreNewMemory(t *testing.T) {
	d := opened(t, row("AB"))
	must(t, d, write(0, 'C'))
	must(t, d, flush())
	must(t, d, write(1, 'D'))
	must(t, d, write(1, 'D'))
	before := state(d)
	one, two := d.Image(), d.Image()
	spoil(one)
	if !bytes.Equal(two, row("CB")) {
		t.Error("two images share memory")
	}
	p, q := d.Pending(), d.Pending()
	p = p[:cap(p)]
	p[0], p[1] = 7, 7
	if !slices.Equal(q, []int{1, 1}) {
		t.Error("two lists of pending writes share memory")
	}
	a, b := d.Tape(0), d.Tape(2)
	for k := range a {
		spoil(a[k].Bytes)
		a[k].Block = 9
	}
	if !slices.EqualFunc(b, []api.Act{write(1, 'D'), write(1, 'D')}, sameAct) {
		t.Error("two tapes share memory")
	}
	spoil(b[0].Bytes)
	if !sameAct(b[1], write(1, 'D')) {
		t.Error("two acts of a tape share memory")
	}
	clear(b[:cap(b)])
	if state(d) != before {
		t.Error("what was answered is what the disk keeps")
	}
	must(t, d, flush())
	wantImage(t, d, "CD")
}

// P3.9

func TestAfterErrors(t *testing.T) {
	short := api.Act{Kind: api.ActWrite, Block: 1, Bytes: make([]byte, 3)}
	long := api.Act{Kind: api.ActWrite, Block: 1, Bytes: make([]byte, 513)}
	far := api.Act{Kind: api.ActWrite, Block: 2, Bytes: make([]byte, 3)}
	none := api.Act{Kind: 3, Block: 2, Bytes: make([]byte, 3)}
	good := write(1, 'A')
	for _, c := range []struct {
		acts []api.Act
		want api.Errno
	}{
		{[]api.Act{none}, api.ErrInval},
		{[]api.Act{{}}, api.ErrInval},
		{[]api.Act{{Kind: -1}}, api.ErrInval},
		{[]api.Act{{Kind: least}}, api.ErrInval},
		{[]api.Act{{Kind: most}}, api.ErrInval},
		{[]api.Act{far}, api.ErrBlock},
		{[]api.Act{short}, api.ErrSize},
		{[]api.Act{long}, api.ErrSize},
		{[]api.Act{{Kind: api.ActWrite}}, api.ErrSize},
		{[]api.Act{good, flush(), short, far, none}, api.ErrSize},
		{[]api.Act{good, flush(), far, none, short}, api.ErrBlock},
		{[]api.Act{good, flush(), none, short, far}, api.ErrInval},
	} {
		if b, e := adisk.After(row("ZZ"), c.acts, []bool{true}); len(b) != 0 || e != c.want {
			t.Errorf("After(%v): %d bytes, error %d, want %d", c.acts, len(b), e, c.want)
		}
		if b, e := adisk.After(make([]byte, 100), c.acts, nil); len(b) != 0 || e != api.ErrSize {
			t.Errorf("After of 100 bytes: %d bytes, error %d", len(b), e)
		}
	}
	for _, i := range outside(2) {
		if b, e := adisk.After(row("ZZ"), []api.Act{write(i, 'A')}, nil); len(b) != 0 || e != api.ErrBlock {
			t.Errorf("After of a write to %d: %d bytes, error %d", i, len(b), e)
		}
	}
	for _, n := range []int{0, 1, 511, 513, (api.MaxDisk + 1) * size} {
		if b, e := adisk.After(make([]byte, n), nil, nil); len(b) != 0 || e != api.ErrSize {
			t.Errorf("After of %d bytes: %d bytes, error %d", n, len(b), e)
		}
	}
	if b, e := adisk.After(make([]byte, api.MaxDisk*size), nil, nil); len(b) != api.MaxDisk*size || e != api.OK {
		t.Errorf("After of MaxDisk blocks: %d bytes, error %d", len(b), e)
	}
}

func TestAfterDoesNotLookAtAFlush(t *testing.T) {
	acts := []api.Act{write(0, 'A'), {Kind: api.ActFlush, Block: most, Bytes: make([]byte, 3)}, {Kind: api.ActFlush, Block: -1}}
	if b, e := adisk.After(row("ZZ"), acts, nil); e != api.OK || !bytes.Equal(b, row("AZ")) {
		t.Errorf("After: not A Z, error %d", e)
	}
}

func TestAfterKeeps(t *testing.T) {
	pending := []api.Act{write(0, 'A'), write(1, 'B'), write(0, 'C')}
	acts := append([]api.Act{write(2, 'D'), write(2, 'E'), flush()}, pending...)
	for _, keep := range keeps(len(pending) + 2) {
		b, e := adisk.After(row("xyz"), acts, keep)
		if e != api.OK || !bytes.Equal(b, leaves(row("xyE"), pending, keep)) {
			t.Errorf("After with %v: another image, error %d", keep, e)
		}
	}
}

func TestAfterKeepsWhatItIsHanded(t *testing.T) {
	all, image := guarded(row("ZZ"))
	acts := []api.Act{write(0, 'A'), flush(), write(1, 'B'), write(9, 'x')}
	keep := []bool{true, false}
	one, e := adisk.After(image, acts[:3], keep[:1])
	wantErr(t, "After", e, api.OK)
	two, _ := adisk.After(image, acts[:3], keep[:1])
	spoil(one)
	if !bytes.Equal(two, row("AB")) {
		t.Error("two answers share memory")
	}
	if !bytes.Equal(all, append(row("ZZ"), full('g')...)) {
		t.Error("the image that was handed in has changed")
	}
	if !slices.EqualFunc(acts, []api.Act{write(0, 'A'), flush(), write(1, 'B'), write(9, 'x')}, sameAct) || !slices.Equal(keep, []bool{true, false}) {
		t.Error("the lists that were handed in have changed")
	}
	none, _ := adisk.After(image, nil, nil)
	spoil(none)
	if !bytes.Equal(image, row("ZZ")) {
		t.Error("the answer is what was handed in")
	}
}

// P3.10

// follows holds a disk against After of its tape.
func follows(t *testing.T, what string, d *adisk.Disk, image []byte, keep []bool) {
	t.Helper()
	want, e := adisk.After(image, d.Tape(0), keep)
	if e != api.OK || !bytes.Equal(d.Image(), want) {
		t.Errorf("%s: the image isn't After of the tape, error %d", what, e)
	}
}

func TestCutAtEveryStep(t *testing.T) {
	image := row("wxyz")
	acts := []api.Act{
		flush(), write(0, 'A'), write(1, 'B'), write(0, 'C'), flush(), write(3, 'D'),
		write(3, 'E'), write(2, 'F'), flush(), flush(), write(1, 'G'), write(1, 'H'),
	}
	for at := 1; at <= len(acts); at++ {
		for _, keep := range keeps(4) {
			what := fmt.Sprintf("cut at %d, keeping %v", at, keep)
			cutAtStep(t, what, opened(t, image), image, acts, at, keep)
		}
	}
}

func cutAtStep(t *testing.T, what string, d *adisk.Disk, image []byte, acts []api.Act, at int, keep []bool) {
	t.Helper()
	wantErr(t, what, d.Arm(api.Crash{At: at, Keep: keep}), api.OK)
	plain := &plainDisk{first: image}
	for _, a := range acts[:at-1] {
		wantErr(t, what, do(d, a), api.OK)
		plain.step(a)
		follows(t, what, d, image, nil)
	}
	wantErr(t, what, do(d, acts[at-1]), api.ErrDown)
	plain.cut(acts[at-1:at], keep)
	follows(t, what, d, image, keep)
	plain.hold(t, what, d)
	for _, a := range acts {
		wantErr(t, what, do(d, a), api.ErrDown)
	}
	plain.hold(t, what, d)
}

// plainDisk is a disk by the chapter's words: all it has is the row of its steps, out of which everything is found anew.
type plainDisk struct {
	first           []byte
	acts            []api.Act
	writes, flushes int
	down            bool
	kept            []bool
}

func (p *plainDisk) count(a api.Act) {
	if a.Kind == api.ActWrite {
		p.writes++
	} else {
		p.flushes++
	}
}

func (p *plainDisk) step(a api.Act) {
	p.count(a)
	p.acts = append(p.acts, a)
}

// cut is a power cut at a step, or at none.
func (p *plainDisk) cut(at []api.Act, keep []bool) {
	for _, a := range at {
		p.count(a)
		if a.Kind == api.ActWrite {
			p.acts = append(p.acts, a)
		}
	}
	p.down, p.kept = true, keep
}

// split is the acts up to the last flush, and those behind it.
func (p *plainDisk) split() (flushed, pending []api.Act) {
	k := len(p.acts)
	for k > 0 && p.acts[k-1].Kind == api.ActWrite {
		k--
	}
	return p.acts[:k], p.acts[k:]
}

// behind tells block i's bytes behind a row of acts.
func (p *plainDisk) behind(acts []api.Act, i int) []byte {
	for k := len(acts) - 1; k >= 0; k-- {
		if acts[k].Kind == api.ActWrite && acts[k].Block == i {
			return acts[k].Bytes
		}
	}
	return p.first[i*size : (i+1)*size]
}

func (p *plainDisk) image() []byte {
	flushed, pending := p.split()
	var b []byte
	for i := range len(p.first) / size {
		b = append(b, p.behind(flushed, i)...)
	}
	if p.down {
		return leaves(b, pending, p.kept)
	}
	return b
}

// hold compares all that a disk tells of itself.
func (p *plainDisk) hold(t *testing.T, what string, d *adisk.Disk) {
	t.Helper()
	if !bytes.Equal(d.Image(), p.image()) {
		t.Errorf("%s: another image", what)
	}
	if d.Down() != p.down || d.Blocks() != len(p.first)/size {
		t.Errorf("%s: down %v, %d blocks", what, d.Down(), d.Blocks())
	}
	wantSteps(t, d, p.writes, p.flushes)
	wantTape(t, d, 0, p.acts...)
	var want []int
	if _, pending := p.split(); !p.down {
		for _, a := range pending {
			want = append(want, a.Block)
		}
	}
	wantPending(t, d, want...)
	for i := range d.Blocks() {
		b, e := d.Read(i)
		if p.down && (e != api.ErrDown || len(b) != 0) {
			t.Errorf("%s: Read of a disk that is down: error %d", what, e)
		}
		if !p.down && (e != api.OK || !bytes.Equal(b, p.behind(p.acts, i))) {
			t.Errorf("%s: Read(%d) tells another block, error %d", what, i, e)
		}
	}
}

// dice is a row of numbers that look like any, always the same for the same seed.
type dice uint32

func (r *dice) below(n int) int {
	*r = *r*1664525 + 1013904223
	return int(*r>>8) % n
}

func (r *dice) keep() []bool {
	keep := make([]bool, r.below(8))
	for k := range keep {
		keep[k] = r.below(2) == 0
	}
	return keep
}

func (r *dice) act() api.Act {
	if r.below(5) == 0 {
		return flush()
	}
	return write(r.below(4), byte('a'+r.below(26)))
}

func TestAnyRowOfCalls(t *testing.T) {
	for seed := range 300 {
		r := dice(seed)
		image := row("wxyz")
		d, plain := opened(t, image), &plainDisk{first: image}
		at, keep := 0, []bool(nil)
		for n := 0; n < 40 && !plain.down; n++ {
			what := fmt.Sprintf("seed %d, call %d", seed, n)
			switch r.below(20) {
			case 0:
				at, keep = r.below(12)-3, r.keep()
				wantErr(t, what, d.Arm(api.Crash{At: at, Keep: keep}), api.OK)
			case 1:
				wantErr(t, what, d.Write(4, full('x')), api.ErrBlock)
				wantErr(t, what, d.Write(0, nil), api.ErrSize)
			case 2:
				if n > 10 {
					keep = r.keep()
					d.Crash(keep)
					plain.cut(nil, keep)
				}
			default:
				a := r.act()
				at--
				if at == 0 {
					wantErr(t, what, do(d, a), api.ErrDown)
					plain.cut([]api.Act{a}, keep)
				} else {
					wantErr(t, what, do(d, a), api.OK)
					plain.step(a)
				}
			}
			plain.hold(t, what, d)
			follows(t, what, d, image, plain.kept)
		}
	}
}

// P3.11

func TestRefusedCallsChangeNothing(t *testing.T) {
	refused := func(t *testing.T, d *adisk.Disk) {
		before := state(d)
		for _, i := range outside(2) {
			d.Read(i)
			d.Write(i, full('x'))
			d.Write(i, nil)
		}
		d.Write(0, nil)
		d.Write(0, make([]byte, 511))
		d.Write(1, make([]byte, 513))
		if state(d) != before {
			t.Error("a refused call changes something")
		}
	}
	d := fresh(t, 2)
	refused(t, d)
	must(t, d, write(0, 'A'))
	wantErr(t, "Arm", d.Arm(api.Crash{At: 3, Keep: []bool{true, true, true}}), api.OK)
	refused(t, d)
	must(t, d, write(1, 'B'))
	refused(t, d)
	must(t, d, write(0, 'C'))
	refused(t, d)
	wantErr(t, "the armed step", d.Flush(), api.ErrDown)
	wantImage(t, d, "CB")
	before := state(d)
	refused(t, d)
	d.Read(0)
	d.Write(0, full('x'))
	d.Flush()
	d.Arm(api.Crash{At: 1, Keep: []bool{true}})
	d.Crash([]bool{true})
	if state(d) != before {
		t.Error("a call of a disk that is down changes something")
	}
}

// The chapter's examples that stand nowhere above.

func TestExamples(t *testing.T) {
	d := fresh(t, 2) // 2
	must(t, d, write(0, 'A'))
	must(t, d, flush())
	wantImage(t, d, "AZ")
	wantSteps(t, d, 1, 1)
	for _, c := range []struct { // 3
		keep []bool
		want string
	}{{[]bool{true}, "AZ"}, {[]bool{true, false, true}, "CZ"}, {[]bool{false, false, true}, "CZ"}, {[]bool{false, true, true}, "CB"}, {nil, "ZZ"}} {
		d := fresh(t, 2)
		for _, a := range []api.Act{write(0, 'A'), write(1, 'B'), write(0, 'C')} {
			must(t, d, a)
		}
		d.Crash(c.keep)
		wantImage(t, d, c.want)
	}
	d = fresh(t, 2) // 4
	wantErr(t, "Arm", d.Arm(api.Crash{At: 2, Keep: []bool{true, true}}), api.OK)
	must(t, d, write(0, 'A'))
	wantErr(t, "Write(9, A)", d.Write(9, full('A')), api.ErrBlock)
	wantErr(t, "Write(1, B)", d.Write(1, full('B')), api.ErrDown)
	wantImage(t, d, "AB")
	wantSteps(t, d, 2, 0)
	wantTape(t, d, 0, write(0, 'A'), write(1, 'B'))
	d = fresh(t, 2)
	wantErr(t, "Arm", d.Arm(api.Crash{At: 2, Keep: []bool{true}}), api.OK)
	must(t, d, write(0, 'A'))
	wantErr(t, "Flush", d.Flush(), api.ErrDown)
	wantImage(t, d, "AZ")
	wantSteps(t, d, 1, 1)
	wantTape(t, d, 0, write(0, 'A'))
	for _, c := range []struct { // 6
		acts []api.Act
		keep []bool
		want string
	}{
		{[]api.Act{write(0, 'A'), flush(), write(1, 'B')}, []bool{true}, "AB"},
		{[]api.Act{write(0, 'A'), flush(), write(1, 'B')}, nil, "AZ"},
		{nil, []bool{true}, "ZZ"},
	} {
		if b, e := adisk.After(row("ZZ"), c.acts, c.keep); e != api.OK || !bytes.Equal(b, row(c.want)) {
			t.Errorf("After isn't %s, error %d", c.want, e)
		}
	}
}
