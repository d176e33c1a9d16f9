package wal_test

import (
	"bytes"
	"encoding/binary"
	"fmt"
	"hash/crc32"
	"math"
	"math/rand"
	"slices"
	"testing"

	"bole/adisk"
	"bole/api"
	"bole/wal"
)

const size = api.BlockSize

func full(c byte) []byte { return bytes.Repeat([]byte{c}, size) }

func fresh(t *testing.T, n int) *adisk.Disk {
	t.Helper()
	d, e := adisk.New(n)
	if e != api.OK {
		t.Fatalf("a disk of %d blocks: %d", n, e)
	}
	return d
}

func opened(t *testing.T, image []byte) *adisk.Disk {
	t.Helper()
	d, e := adisk.Open(image)
	if e != api.OK {
		t.Fatalf("a disk of %d bytes: %d", len(image), e)
	}
	return d
}

// noise is an image of n blocks with an empty log, all its other bytes being any.
func noise(seed int64, n int) []byte {
	image := make([]byte, n*size)
	rand.New(rand.NewSource(seed)).Read(image)
	if n > 1 {
		clear(image[size : 2*size])
	}
	return image
}

// blocks have these numbers, and bytes 'A', 'B' and so on.
func blocks(nums ...int) []api.Block {
	l := make([]api.Block, len(nums))
	for i, num := range nums {
		l[i] = api.Block{Num: num, Bytes: full(byte('A' + i))}
	}
	return l
}

// run are k numbers from a first one on, each so much above the one before.
func run(k, first, by int) []int {
	nums := make([]int, k)
	for i := range nums {
		nums[i] = first + i*by
	}
	return nums
}

func sized(num, length int) api.Block { return api.Block{Num: num, Bytes: make([]byte, length)} }

func write(i int, b []byte) api.Act { return api.Act{Kind: api.ActWrite, Block: i, Bytes: b} }

func flush() api.Act { return api.Act{Kind: api.ActFlush} }

// plainHeader is a header of any numbers, whether or not they may be.
func plainHeader(l []api.Block) []byte {
	h := make([]byte, size)
	copy(h, "BOLELOG1")
	binary.LittleEndian.PutUint16(h[8:], uint16(len(l)))
	all := []byte{}
	for i, b := range l {
		binary.LittleEndian.PutUint32(h[16+4*i:], uint32(b.Num))
		all = append(all, b.Bytes...)
	}
	binary.LittleEndian.PutUint32(h[12:], crc32.ChecksumIEEE(append(slices.Clone(h), all...)))
	return h
}

func plainMay(l []api.Block, n int) bool {
	if len(l) < 1 || len(l) > 96 {
		return false
	}
	for i, b := range l {
		if b.Num < 98 || b.Num >= n || i > 0 && b.Num <= l[i-1].Num {
			return false
		}
	}
	return true
}

// plainRecovery are the acts that bring these blocks home.
func plainRecovery(l []api.Block) []api.Act {
	var acts []api.Act
	for _, b := range l {
		acts = append(acts, write(b.Num, b.Bytes))
	}
	return append(acts, flush(), write(1, make([]byte, size)), flush())
}

// plainCommit are the acts of a commit of these blocks.
func plainCommit(l []api.Block) []api.Act {
	var acts []api.Act
	for i, b := range l {
		acts = append(acts, write(2+i, b.Bytes))
	}
	return append(append(acts, flush(), write(1, plainHeader(l)), flush()), plainRecovery(l)...)
}

// plainRead are all the disk's bytes as Read tells them.
func plainRead(t *testing.T, d *adisk.Disk) []byte {
	t.Helper()
	var all []byte
	for i := range d.Blocks() {
		b, e := d.Read(i)
		if e != api.OK {
			t.Fatalf("Read(%d): %d", i, e)
		}
		all = append(all, b...)
	}
	return all
}

// plainLog are the blocks that a log holds, if it isn't bad. That a header of theirs is the one that stands there says all of it at once.
func plainLog(image []byte) ([]api.Block, bool) {
	h := image[size : 2*size]
	if bytes.Equal(h, make([]byte, size)) {
		return nil, true
	}
	var l []api.Block
	for i := range min(int(binary.LittleEndian.Uint16(h[8:])), 96) {
		num := binary.LittleEndian.Uint32(h[16+4*i:])
		l = append(l, api.Block{Num: int(num), Bytes: image[(2+i)*size : (3+i)*size]})
	}
	return l, plainMay(l, len(image)/size) && bytes.Equal(h, plainHeader(l))
}

// placed is an image with these blocks in their places.
func placed(image []byte, l []api.Block) []byte {
	all := slices.Clone(image)
	for _, b := range l {
		copy(all[b.Num*size:], b.Bytes)
	}
	return all
}

// withHead is an image with this header.
func withHead(image, header []byte) []byte {
	return placed(image, []api.Block{{Num: 1, Bytes: header}})
}

// withLog is an image with a good log of these blocks.
func withLog(image []byte, l []api.Block) []byte {
	all := withHead(image, plainHeader(l))
	for i, b := range l {
		copy(all[(2+i)*size:], b.Bytes)
	}
	return all
}

// plainBehind is an image behind its log, which isn't bad.
func plainBehind(image []byte) []byte {
	l, _ := plainLog(image)
	return withHead(placed(image, l), make([]byte, size))
}

func tell(acts []api.Act) string {
	text := ""
	for _, a := range acts {
		if a.Kind == api.ActFlush {
			text += " flush"
		} else {
			text += fmt.Sprintf(" %d:%x", a.Block, crc32.ChecksumIEEE(a.Bytes))
		}
	}
	return text
}

// state is all that a disk tells of itself.
func state(d *adisk.Disk) string {
	w, f := d.Steps()
	return fmt.Sprint(d.Blocks(), d.Down(), w, f, d.Pending(), crc32.ChecksumIEEE(d.Image()), tell(d.Tape(0)))
}

func wantState(t *testing.T, what string, d *adisk.Disk, want string) {
	t.Helper()
	if s := state(d); s != want {
		t.Errorf("%s: the disk is %s, want %s", what, s, want)
	}
}

func wantTape(t *testing.T, what string, d *adisk.Disk, from int, want []api.Act) {
	t.Helper()
	if got := tell(d.Tape(from)); got != tell(want) {
		t.Errorf("%s: the steps are%s, want%s", what, got, tell(want))
	}
}

func wantSteps(t *testing.T, what string, d *adisk.Disk, writes, flushes int) {
	t.Helper()
	if w, f := d.Steps(); w != writes || f != flushes {
		t.Errorf("%s: %d writes, %d flushes, want %d, %d", what, w, f, writes, flushes)
	}
}

func wantRead(t *testing.T, what string, d *adisk.Disk, i int, want []byte) {
	t.Helper()
	if b, e := d.Read(i); e != api.OK || !bytes.Equal(b, want) {
		t.Errorf("%s: Read(%d): %d, other bytes", what, i, e)
	}
}

func wantCommit(t *testing.T, what string, d *adisk.Disk, l []api.Block, want api.Errno) {
	t.Helper()
	if e := wal.Commit(d, l); e != want {
		t.Errorf("%s: Commit: %d, want %d", what, e, want)
	}
}

func wantRecover(t *testing.T, what string, d *adisk.Disk, n int, want api.Errno) {
	t.Helper()
	if k, e := wal.Recover(d); k != n || e != want {
		t.Errorf("%s: Recover: %d, %d, want %d, %d", what, k, e, n, want)
	}
}

// wantBehind also holds that it has no step.
func wantBehind(t *testing.T, what string, d *adisk.Disk, image []byte, want api.Errno) {
	t.Helper()
	before := state(d)
	b, e := wal.Behind(d)
	if e != want || !bytes.Equal(b, image) {
		t.Errorf("%s: Behind: %d bytes, %d, want %d, %d", what, len(b), e, len(image), want)
	}
	wantState(t, what, d, before)
}

// wantRefused holds that neither Behind nor Recover takes the disk, and that nothing is done to it.
func wantRefused(t *testing.T, what string, d *adisk.Disk, want api.Errno) {
	t.Helper()
	before := state(d)
	wantBehind(t, what, d, nil, want)
	wantRecover(t, what, d, 0, want)
	wantState(t, what, d, before)
}

// P5.1: example 1.
func TestCommitExample(t *testing.T) {
	d := fresh(t, 100)
	wantCommit(t, "P5.1: none", d, nil, api.OK)
	wantSteps(t, "P5.1: none", d, 0, 0)
	wantCommit(t, "P5.1", d, blocks(98, 99), api.OK)
	wantSteps(t, "P5.1", d, 6, 4)
	for i, c := range map[int]byte{0: 0, 1: 0, 2: 'A', 3: 'B', 4: 0, 97: 0, 98: 'A', 99: 'B'} {
		wantRead(t, "P5.1", d, i, full(c))
	}
	if p := d.Pending(); len(p) != 0 {
		t.Errorf("P5.1: pending are %v", p)
	}
}

// P5.1: which steps a commit has, with their bytes, and what lasts then.
func TestCommitSteps(t *testing.T) {
	for _, k := range []int{1, 2, 3, 7, 95, 96} {
		for _, by := range []int{1, 2} {
			n := 98 + k*by
			image := noise(int64(k), n)
			d, l := opened(t, image), blocks(run(k, 98, by)...)
			what := fmt.Sprintf("P5.1: %d blocks, each %d above", k, by)
			wantCommit(t, what, d, l, api.OK)
			wantTape(t, what, d, 0, plainCommit(l))
			wantSteps(t, what, d, 2*k+2, 4)
			if lasts := withHead(withLog(placed(image, l), l), full(0)); !bytes.Equal(d.Image(), lasts) || len(d.Pending()) != 0 {
				t.Errorf("%s: other bytes last, or some are pending", what)
			}
		}
	}
}

// P5.1: what is refused for the list alone, on disks that are up and down.
func TestCommitRefuses(t *testing.T) {
	for _, c := range []struct {
		what string
		n    int
		l    []api.Block
		want api.Errno
	}{
		{"97", 100, blocks(97), api.ErrNums},
		{"100 of 100", 100, blocks(100), api.ErrNums},
		{"101 of 100", 100, blocks(101), api.ErrNums},
		{"98 of 98", 98, blocks(98), api.ErrNums},
		{"98 of 97", 97, blocks(98), api.ErrNums},
		{"0 of 1", 1, blocks(0), api.ErrNums},
		{"1, the header", 100, blocks(1), api.ErrNums},
		{"falling", 100, blocks(99, 98), api.ErrNums},
		{"alike", 100, blocks(98, 98), api.ErrNums},
		{"the last two alike", 200, blocks(98, 120, 120), api.ErrNums},
		{"the last falls", 200, blocks(98, 120, 119), api.ErrNums},
		{"a middle one behind the end", 200, blocks(98, 200, 199), api.ErrNums},
		{"-1", 100, blocks(-1), api.ErrNums},
		{"the least int", 100, blocks(math.MinInt), api.ErrNums},
		{"the greatest int", 100, blocks(math.MaxInt), api.ErrNums},
		{"98 and the greatest int", 100, blocks(98, math.MaxInt), api.ErrNums},
		{"2^32 + 98", 100, blocks(1<<32 + 98), api.ErrNums},
		{"16384 of 16384", api.MaxDisk, blocks(16384), api.ErrNums},
		{"97 blocks", 300, blocks(run(97, 98, 1)...), api.ErrNums},
		{"98 blocks", 300, blocks(run(98, 98, 1)...), api.ErrNums},
		{"1000 blocks", 2000, blocks(run(1000, 98, 1)...), api.ErrNums},
		{"97 blocks from 97 on", 300, blocks(run(97, 97, 1)...), api.ErrNums},
		{"no bytes", 100, []api.Block{{Num: 98}}, api.ErrSize},
		{"511 bytes", 100, []api.Block{sized(98, 511)}, api.ErrSize},
		{"513 bytes", 100, []api.Block{sized(98, 513)}, api.ErrSize},
		{"1024 bytes", 100, []api.Block{sized(98, 1024)}, api.ErrSize},
		{"the second of 511", 100, []api.Block{sized(98, 512), sized(99, 511)}, api.ErrSize},
		{"the first of 513, the second of 511", 100, []api.Block{sized(98, 513), sized(99, 511)}, api.ErrSize},
		{"97 of 511 bytes", 100, []api.Block{sized(97, 511)}, api.ErrNums},
		{"100 of 511 bytes", 100, []api.Block{sized(100, 511)}, api.ErrNums},
		{"98 of 511 bytes, then 100", 100, []api.Block{sized(98, 511), sized(100, 512)}, api.ErrNums},
		{"falling of 511 bytes", 100, []api.Block{sized(99, 511), sized(98, 511)}, api.ErrNums},
		{"97 blocks of no bytes", 300, make([]api.Block, 97), api.ErrNums},
	} {
		d := fresh(t, c.n)
		before := state(d)
		wantCommit(t, "P5.1: "+c.what, d, c.l, c.want)
		wantState(t, "P5.1: "+c.what, d, before)
		d.Crash(nil)
		wantCommit(t, "P5.1: "+c.what+", down", d, c.l, c.want)
	}
}

// P5.1: the last block that a disk has, and no less than 99 blocks.
func TestCommitAtTheEnd(t *testing.T) {
	for _, n := range []int{99, 100, 128, api.MaxDisk} {
		d := fresh(t, n)
		wantCommit(t, fmt.Sprint("P5.1: the end of ", n), d, blocks(n-1), api.OK)
		wantRead(t, fmt.Sprint("P5.1: the end of ", n), d, n-1, full('A'))
	}
}

// P5.1: of no block the disk isn't asked.
func TestCommitOfNone(t *testing.T) {
	for _, l := range [][]api.Block{nil, {}, blocks(98)[:0]} {
		for _, n := range []int{1, 97, 98, 100} {
			d := fresh(t, n)
			d.Write(0, full('x'))
			d.Arm(api.Crash{At: 1})
			before := state(d)
			wantCommit(t, "P5.1: none", d, l, api.OK)
			wantState(t, "P5.1: none", d, before)
			if e := d.Flush(); e != api.ErrDown {
				t.Errorf("P5.1: none: the armed step was taken")
			}
			wantCommit(t, "P5.1: none, down", d, l, api.OK)
		}
	}
}

// P5.1: on a disk that is down, with no step.
func TestCommitDown(t *testing.T) {
	d := fresh(t, 100)
	d.Write(98, full('x'))
	d.Crash(nil)
	before := state(d)
	wantCommit(t, "P5.1: down", d, blocks(98), api.ErrDown)
	wantCommit(t, "P5.1: down", d, blocks(98, 99), api.ErrDown)
	wantState(t, "P5.1: down", d, before)
}

// P5.1: what stood in the log before isn't looked at.
func TestCommitOverAnyLog(t *testing.T) {
	l := blocks(98, 100)
	for what, image := range map[string][]byte{
		"empty":         noise(1, 102),
		"good":          withLog(noise(2, 102), blocks(99, 100, 101)),
		"the same":      withLog(noise(3, 102), l),
		"bad":           withHead(noise(4, 102), full(1)),
		"a wrong sum":   withHead(noise(5, 102), plainHeader(blocks(99))),
		"too long ones": withHead(noise(6, 102), plainHeader(blocks(run(96, 98, 1)...))),
	} {
		d := opened(t, image)
		wantCommit(t, "P5.1: a log that is "+what, d, l, api.OK)
		wantTape(t, "P5.1: a log that is "+what, d, 0, plainCommit(l))
		wantBehind(t, "P5.1: a log that is "+what, d, d.Image(), api.OK)
	}
}

// P5.1: blocks are written whether or not they had these bytes, and two commits are two rows of steps.
func TestCommitOfTheSameBytes(t *testing.T) {
	d, l := fresh(t, 100), []api.Block{sized(98, 512), sized(99, 512)}
	wantCommit(t, "P5.1: zeros", d, l, api.OK)
	wantTape(t, "P5.1: zeros", d, 0, plainCommit(l))
	wantCommit(t, "P5.1: again", d, l, api.OK)
	wantTape(t, "P5.1: again", d, 10, plainCommit(l))
	wantSteps(t, "P5.1: again", d, 12, 8)
}

// P5.1: what was pending before goes with the first flush.
func TestCommitBehindPendingWrites(t *testing.T) {
	d := fresh(t, 101)
	d.Write(98, full('x'))
	d.Write(100, full('y'))
	d.Write(1, full('z'))
	wantCommit(t, "P5.1: behind pending writes", d, blocks(98, 99), api.OK)
	wantTape(t, "P5.1: behind pending writes", d, 3, plainCommit(blocks(98, 99)))
	for i, c := range map[int]byte{1: 0, 98: 'A', 99: 'B', 100: 'y'} {
		wantRead(t, "P5.1: behind pending writes", d, i, full(c))
	}
}

// P5.2, P5.3: a disk that is down, whatever else is wrong with it.
func TestDownAheadOfAll(t *testing.T) {
	good := withLog(noise(1, 100), blocks(98, 99))
	for what, image := range map[string][]byte{
		"of one block":   noise(2, 1),
		"of 97 blocks":   noise(3, 97),
		"of 98 blocks":   noise(4, 98),
		"with a log":     good,
		"with a bad log": withHead(good, full(1)),
	} {
		d := opened(t, image)
		d.Crash(nil)
		wantRefused(t, "P5.2, P5.3: down, "+what, d, api.ErrDown)
	}
}

// P5.2, P5.3: fewer than 98 blocks, ahead of what stands in the log.
func TestFewBlocks(t *testing.T) {
	for _, n := range []int{1, 2, 3, 50, 96, 97} {
		image := make([]byte, n*size)
		wantRefused(t, fmt.Sprintf("P5.2, P5.3: %d blocks", n), opened(t, image), api.ErrBlock)
		if n > 1 {
			wantRefused(t, fmt.Sprintf("P5.2, P5.3: %d blocks, bad", n), opened(t, withHead(image, full(1))), api.ErrBlock)
			wantRefused(t, fmt.Sprintf("P5.2, P5.3: %d blocks, a header", n), opened(t, withHead(image, plainHeader(blocks(98)))), api.ErrBlock)
		}
	}
	for _, n := range []int{98, 99, 128} {
		image := noise(int64(n), n)
		wantBehind(t, fmt.Sprintf("P5.2: %d blocks", n), opened(t, image), image, api.OK)
		wantRecover(t, fmt.Sprintf("P5.3: %d blocks", n), opened(t, image), 0, api.OK)
	}
}

// turned is a header with a byte changed, the sum being right again.
func turned(h []byte, at int, to byte, l []api.Block) []byte {
	h = slices.Clone(h)
	h[at] = to
	clear(h[12:16])
	all := slices.Clone(h)
	for _, b := range l {
		all = append(all, b.Bytes...)
	}
	binary.LittleEndian.PutUint32(h[12:], crc32.ChecksumIEEE(all))
	return h
}

// P5.2, P5.3: headers that are none, with a sum that is right.
func TestBadHeaders(t *testing.T) {
	l := blocks(98, 101)
	image, h := withLog(noise(1, 102), l), plainHeader(l)
	wantBehind(t, "P5.2: the header unturned", opened(t, withHead(image, turned(h, 8, 2, l))), plainBehind(image), api.OK)
	for what, header := range map[string][]byte{
		"begins with 1":          append([]byte{1}, make([]byte, 511)...),
		"ends with 1":            append(make([]byte, 511), 1),
		"all ones":               full(1),
		"another word":           turned(h, 0, 'b', l),
		"the word's end":         turned(h, 7, '2', l),
		"no block":               plainHeader(nil),
		"97 blocks":              turned(h, 8, 97, l),
		"one block":              turned(h, 8, 1, l[:1]),
		"three blocks":           turned(h, 8, 3, l),
		"256 blocks more":        turned(h, 9, 1, l),
		"byte 10":                turned(h, 10, 1, l),
		"byte 11":                turned(h, 11, 1, l),
		"97":                     turned(h, 16, 97, l),
		"two alike":              turned(h, 16, 101, l),
		"falling":                turned(h, 20, 97, l),
		"the disk's end":         turned(h, 20, 102, l),
		"far behind it":          turned(h, 23, 128, l),
		"a byte behind the last": turned(h, 24, 1, l),
		"the last byte":          turned(h, 511, 1, l),
		"a wrong sum":            plainHeader([]api.Block{l[0], {Num: 101, Bytes: full('b')}}),
		"the sum of no block":    turned(h, 8, 2, nil),
		"the sum of one block":   turned(h, 8, 2, l[:1]),
		"the sum of the swapped": turned(h, 8, 2, []api.Block{l[1], l[0]}),
	} {
		wantRefused(t, "P5.2, P5.3: "+what, opened(t, withHead(image, header)), api.ErrHead)
	}
}

// P5.2, P5.3: any byte of a good log turned makes it bad; one outside of it doesn't.
func TestTurnedBytes(t *testing.T) {
	l := blocks(98, 100)
	image := withLog(noise(1, 101), l)
	d := opened(t, image)
	turn := func(at int) {
		b, _ := d.Read(at / size)
		b[at%size] ^= 1 << (at % 8)
		d.Write(at/size, b)
	}
	for at := size; at < 4*size; at++ {
		turn(at)
		if _, e := wal.Behind(d); e != api.ErrHead {
			t.Fatalf("P5.2: byte %d of block %d turned: %d", at%size, at/size, e)
		}
		if n, e := wal.Recover(d); n != 0 || e != api.ErrHead {
			t.Fatalf("P5.3: byte %d of block %d turned: %d, %d", at%size, at/size, n, e)
		}
		turn(at)
	}
	wantBehind(t, "P5.2: turned back", d, plainBehind(image), api.OK)
	for _, at := range []int{0, size - 1, 4 * size, 97 * size, 98 * size, 99 * size, 101*size - 1} {
		turn(at)
		if b, e := wal.Behind(d); e != api.OK || !bytes.Equal(b, plainBehind(plainRead(t, d))) {
			t.Errorf("P5.2: byte %d turned: %d", at, e)
		}
		turn(at)
	}
}

// P5.2, P5.3: the numbers must be blocks of this disk.
func TestLogOfALongerDisk(t *testing.T) {
	l := blocks(98, 149)
	image := withLog(noise(1, 150), l)
	wantBehind(t, "P5.2: 150 blocks", opened(t, image), plainBehind(image), api.OK)
	wantRecover(t, "P5.3: 150 blocks", opened(t, image), 2, api.OK)
	wantRefused(t, "P5.2, P5.3: 149 blocks", opened(t, image[:149*size]), api.ErrHead)
	wantRefused(t, "P5.2, P5.3: 98 blocks", opened(t, image[:98*size]), api.ErrHead)
}

// P5.2, P5.3: logs of every length, and the steps of their recoveries.
func TestGoodLogs(t *testing.T) {
	for k := 1; k <= 96; k++ {
		l := blocks(run(k, 98+k%3, 2)...)
		image := withLog(noise(int64(k), 98+2*k+k%3), l)
		d, what := opened(t, image), fmt.Sprintf("P5.2, P5.3: %d blocks", k)
		behind := plainBehind(image)
		wantBehind(t, what, d, behind, api.OK)
		wantRecover(t, what, d, k, api.OK)
		wantTape(t, what, d, 0, plainRecovery(l))
		wantSteps(t, what, d, k+1, 2)
		if !bytes.Equal(d.Image(), behind) || len(d.Pending()) != 0 {
			t.Errorf("%s: other bytes last, or some are pending", what)
		}
		wantRecover(t, what+", again", d, 0, api.OK)
		wantSteps(t, what+", again", d, k+1, 2)
		wantBehind(t, what+", again", d, behind, api.OK)
	}
}

// P5.2, P5.3: a disk as long as one can be.
func TestLongestDisk(t *testing.T) {
	l := blocks(98, 9000, 16383)
	image := withLog(noise(1, api.MaxDisk), l)
	d := opened(t, image)
	wantBehind(t, "P5.2: 16384 blocks", d, plainBehind(image), api.OK)
	wantRecover(t, "P5.3: 16384 blocks", d, 3, api.OK)
	if !bytes.Equal(d.Image(), plainBehind(image)) {
		t.Errorf("P5.3: 16384 blocks: other bytes last")
	}
}

// P5.2, P5.3: of an empty log, which is told as it is whatever stands in its data.
func TestEmptyLog(t *testing.T) {
	image := noise(1, 120)
	d := opened(t, image)
	d.Arm(api.Crash{At: 1})
	before := state(d)
	wantBehind(t, "P5.2: empty", d, image, api.OK)
	wantRecover(t, "P5.3: empty", d, 0, api.OK)
	wantState(t, "P5.3: empty", d, before)
	if e := d.Flush(); e != api.ErrDown {
		t.Errorf("P5.3: empty: the armed step was taken")
	}
}

// P5.2, P5.3: the log is what Read tells, pending or not.
func TestPendingLog(t *testing.T) {
	l := blocks(98, 99)
	logged := withLog(noise(1, 100), l)
	for _, c := range []struct {
		what  string
		image []byte
		num   int
		b     []byte
		n     int
		want  api.Errno
	}{
		{"a header that is pending", withHead(logged, full(0)), 1, plainHeader(l), 2, api.OK},
		{"an empty header that is pending", logged, 1, full(0), 0, api.OK},
		{"a bad header that is pending", logged, 1, full(1), 0, api.ErrHead},
		{"right data that are pending", placed(logged, blocks(3)), 3, full('B'), 2, api.OK},
		{"wrong data that are pending", logged, 3, full('b'), 0, api.ErrHead},
		{"a home that is pending", logged, 99, full('x'), 2, api.OK},
		{"another block that is pending", logged, 0, full('x'), 2, api.OK},
	} {
		d := opened(t, c.image)
		d.Write(c.num, c.b)
		if c.want != api.OK {
			wantRefused(t, "P5.2, P5.3: "+c.what, d, c.want)
			continue
		}
		behind := plainBehind(plainRead(t, d))
		wantBehind(t, "P5.2: "+c.what, d, behind, api.OK)
		wantRecover(t, "P5.3: "+c.what, d, c.n, api.OK)
		wantSteps(t, "P5.3: "+c.what, d, 1+min(c.n, 1)+c.n, min(c.n, 1)*2)
		if !bytes.Equal(plainRead(t, d), behind) {
			t.Errorf("P5.3: %s: other bytes", c.what)
		}
	}
}

// P5.2, P5.3: the bad disks of example 4.
func TestBadExample(t *testing.T) {
	wantCommit(t, "P5.1: 97 blocks", fresh(t, 97), blocks(98), api.ErrNums)
	wantRefused(t, "P5.2, P5.3: 97 blocks", fresh(t, 97), api.ErrBlock)
	d := fresh(t, 100)
	d.Write(1, append([]byte{1}, make([]byte, 511)...))
	wantRefused(t, "P5.2, P5.3: block 1 begins with 1", d, api.ErrHead)
	d = opened(t, withLog(make([]byte, 100*size), blocks(98, 99)))
	b, _ := d.Read(2)
	b[300]++
	d.Write(2, b)
	wantRefused(t, "P5.2, P5.3: a byte of block 2 turned", d, api.ErrHead)
}

// guarded is a list whose blocks, and the list itself, have room behind them that holds something.
func guarded(nums ...int) (l []api.Block, all func() string) {
	rooms := make([][]byte, len(nums))
	list := make([]api.Block, len(nums)+3)
	for i := range list {
		list[i] = api.Block{Num: -7, Bytes: []byte("behind")}
	}
	for i, num := range nums {
		rooms[i] = bytes.Repeat([]byte{byte('A' + i)}, size+40)
		list[i] = api.Block{Num: num, Bytes: rooms[i][:size]}
	}
	return list[:len(nums)], func() string { return fmt.Sprint(list, rooms) }
}

// P5.6: what is handed in isn't changed, whatever becomes of the call.
func TestListIsNotChanged(t *testing.T) {
	for _, at := range []int{0, 1, 2, 3, 5, 8, 10} {
		for _, nums := range [][]int{{98, 99}, {97, 99}, {98}} {
			d := fresh(t, 100)
			d.Arm(api.Crash{At: at, Keep: []bool{true}})
			l, all := guarded(nums...)
			before := all()
			wal.Commit(d, l)
			wal.Recover(d)
			if all() != before {
				t.Errorf("P5.6: the list %v was changed", nums)
			}
		}
	}
}

// P5.6: a list that is changed behind the call changes nothing on the disk, and is taken as it is at the next one.
func TestListIsNotKept(t *testing.T) {
	d, l := fresh(t, 100), blocks(98, 99)
	wantCommit(t, "P5.6", d, l, api.OK)
	before := state(d)
	clear(l[0].Bytes)
	l[1].Bytes[511] = 'x'
	l[0].Num, l[1] = 97, api.Block{Num: 98, Bytes: l[1].Bytes}
	wantState(t, "P5.6", d, before)
	wantTape(t, "P5.6", d, 0, plainCommit(blocks(98, 99)))
	wantBehind(t, "P5.6", d, d.Image(), api.OK)
	l[0].Num, l[1].Num = 98, 99
	wantCommit(t, "P5.6: again", d, l, api.OK)
	wantTape(t, "P5.6: again", d, 10, plainCommit(l))
	one := full('o')
	wantCommit(t, "P5.6: one memory", d, []api.Block{{Num: 98, Bytes: one}, {Num: 99, Bytes: one}}, api.OK)
	clear(one)
	wantRead(t, "P5.6: one memory", d, 98, full('o'))
	wantRead(t, "P5.6: one memory", d, 99, full('o'))
}

func spoil(b []byte) {
	b = b[:cap(b)]
	for i := range b {
		b[i] ^= 255
	}
}

// P5.6: what Behind answered may be changed, its spare room too.
func TestAnswerIsNewMemory(t *testing.T) {
	for what, image := range map[string][]byte{
		"empty": noise(1, 98),
		"good":  withLog(noise(2, 111), blocks(98, 110)),
	} {
		d := opened(t, image)
		d.Write(0, full('x'))
		behind := plainBehind(plainRead(t, d))
		one, _ := wal.Behind(d)
		two, _ := wal.Behind(d)
		spoil(one)
		if !bytes.Equal(two, behind) {
			t.Errorf("P5.6: %s: two answers share memory", what)
		}
		wantBehind(t, "P5.6: "+what, d, behind, api.OK)
		wal.Recover(d)
		spoil(two)
		if !bytes.Equal(plainRead(t, d), behind) {
			t.Errorf("P5.6: %s: the disk shares memory with an answer", what)
		}
	}
}
