package bits_test

import (
	"bytes"
	"iter"
	"math"
	"math/rand"
	"slices"
	"testing"

	"bole/api"
	"bole/bits"
)

const (
	least = math.MinInt
	most  = math.MaxInt
)

// plainBits says the chapter's words of the bits of b, one bool each, by halving each byte again and again.
func plainBits(b []byte) []bool {
	var l []bool
	for _, x := range b {
		for range 8 {
			l = append(l, x%2 == 1)
			x /= 2
		}
	}
	return l
}

// plainBytes is the other way.
func plainBytes(l []bool) []byte {
	b := make([]byte, len(l)/8)
	for i, on := range l {
		worth := []byte{1, 2, 4, 8, 16, 32, 64, 128}[i%8]
		if on {
			b[i/8] += worth
		}
	}
	return b
}

func plainLowest(l []bool, from int) int {
	for i, on := range l {
		if i >= from && !on {
			return i
		}
	}
	return -1
}

func plainCount(l []bool, from, to int) (int, api.Errno) {
	if from < 0 || to > len(l) || from > to {
		return 0, api.ErrBit
	}
	n := 0
	for _, on := range l[from:to] {
		if on {
			n++
		}
	}
	return n, api.OK
}

// plainRuns asks of each bit whether a row begins with it, and goes on from it as far as the row goes.
func plainRuns(l []bool) [][2]int {
	var rows [][2]int
	for i, on := range l {
		if on || i > 0 && !l[i-1] {
			continue
		}
		n := 0
		for i+n < len(l) && !l[i+n] {
			n++
		}
		rows = append(rows, [2]int{i, n})
	}
	return rows
}

func rowsOf(seq iter.Seq2[int, int]) [][2]int {
	var rows [][2]int
	for at, n := range seq {
		rows = append(rows, [2]int{at, n})
	}
	return rows
}

func three() []byte { return []byte{0xF7, 0xFF, 0x01} }

// guarded is b with other bytes ahead of it and in the room behind it, and a question whether those stand as they were.
func guarded(b []byte) ([]byte, func() bool) {
	all := slices.Concat([]byte{0xA5, 0x5A}, b, []byte{0xC3, 0x3C, 0, 0xFF})
	before := slices.Clone(all)
	inside := all[2 : 2+len(b)]
	return inside, func() bool {
		return bytes.Equal(all[:2], before[:2]) && bytes.Equal(all[2+len(b):], before[2+len(b):])
	}
}

// samples are no bytes, all ones, all zeros, every single byte with others about it, and rows of many lengths.
func samples() [][]byte {
	l := [][]byte{nil, {}, {0xFF}, {0x00}, {0xFF, 0xFF, 0xFF}, {0, 0, 0}, three(), {0x7F, 0xFE}, {0xFE, 0x7F}, {0x7F, 0x00, 0xFE}, {0x55, 0xAA}, {0xAA, 0x55}, {0x80, 0x01}, {0x01, 0x80}}
	for x := range 256 {
		l = append(l, []byte{byte(x)}, []byte{0xFF, byte(x)}, []byte{byte(x), 0xFF}, []byte{0, byte(x), 0})
	}
	return append(l, bytes.Repeat([]byte{0xFF}, 512), make([]byte, 512), slices.Concat(make([]byte, 300), bytes.Repeat([]byte{0xFF}, 212)))
}

// randomBytes has rows of many lengths: the chance that a bit is as the one ahead of it is another one each time.
func randomBytes(r *rand.Rand, longest int) []byte {
	l := make([]bool, 8*r.Intn(longest+1))
	turn := 1 + r.Intn(40)
	on := r.Intn(2) == 0
	for i := range l {
		if r.Intn(turn) == 0 {
			on = !on
		}
		l[i] = on
	}
	return plainBytes(l)
}

// noBits are numbers of no bit of n bytes: the edges, the ends of an int, and numbers that are right ones in their lower bytes.
func noBits(n int) []int {
	return []int{-1, -2, -7, -8, -9, -8 * n, 8 * n, 8*n + 1, 8*n + 7, 8*n + 8, 16*n + 3, 1 << 31, 1<<31 - 1, 1 << 32, 1<<32 + 3, 1 << 61, 1<<61 + 1, 1 << 62, -1 << 32, most, most - 1, most - 7, least, least + 1, least + 8}
}

func wantGet(t *testing.T, b []byte, i int, want bool, err api.Errno) {
	t.Helper()
	if on, e := bits.Get(b, i); on != want || e != err {
		t.Errorf("Get of bit %d of %x: %v, %d, want %v, %d", i, b, on, e, want, err)
	}
}

func wantPut(t *testing.T, b []byte, i int, on bool, want []byte, err api.Errno) {
	t.Helper()
	before := slices.Clone(b)
	if e := bits.Put(b, i, on); e != err || !bytes.Equal(b, want) {
		t.Errorf("Put of bit %d of %x, %v: %x, %d, want %x, %d", i, before, on, b, e, want, err)
	}
}

func wantLowest(t *testing.T, b []byte, from, want int) {
	t.Helper()
	if i := bits.Lowest(b, from); i != want {
		t.Errorf("Lowest of %x from %d on: %d, want %d", b, from, i, want)
	}
}

func wantCount(t *testing.T, b []byte, from, to, want int, err api.Errno) {
	t.Helper()
	if n, e := bits.Count(b, from, to); n != want || e != err {
		t.Errorf("Count of %x from %d to %d: %d, %d, want %d, %d", b, from, to, n, e, want, err)
	}
}

func wantRuns(t *testing.T, b []byte, want ...[2]int) {
	t.Helper()
	if rows := rowsOf(bits.Runs(b)); !slices.Equal(rows, want) {
		t.Errorf("Runs of %x: %v, want %v", b, rows, want)
	}
}

// P8.1: the chapter's example 1.
func TestGetExample(t *testing.T) {
	wantGet(t, three(), 3, false, api.OK)
	wantGet(t, three(), 4, true, api.OK)
	wantGet(t, three(), 16, true, api.OK)
	wantGet(t, three(), 17, false, api.OK)
	wantGet(t, three(), 24, false, api.ErrBit)
	wantGet(t, three(), -1, false, api.ErrBit)
	wantGet(t, nil, 0, false, api.ErrBit)
	wantGet(t, []byte{}, 0, false, api.ErrBit)
}

// P8.3: the chapter's example 2.
func TestLowestExample(t *testing.T) {
	for _, c := range [][2]int{{0, 3}, {-5, 3}, {3, 3}, {4, 17}, {23, 23}, {24, -1}, {most, -1}} {
		wantLowest(t, three(), c[0], c[1])
	}
	wantLowest(t, nil, 0, -1)
	wantLowest(t, []byte{}, 0, -1)
	wantLowest(t, []byte{0xFF}, 0, -1)
}

// P8.4: the chapter's example 3.
func TestCountExample(t *testing.T) {
	wantCount(t, three(), 0, 24, 16, api.OK)
	wantCount(t, three(), 3, 4, 0, api.OK)
	wantCount(t, three(), 8, 17, 9, api.OK)
	wantCount(t, three(), 24, 24, 0, api.OK)
	wantCount(t, three(), 4, 3, 0, api.ErrBit)
	wantCount(t, three(), 0, 25, 0, api.ErrBit)
	wantCount(t, three(), -1, 3, 0, api.ErrBit)
}

// P8.2, P8.5: the chapter's example 4.
func TestRunsExample(t *testing.T) {
	b := three()
	wantRuns(t, b, [2]int{3, 1}, [2]int{17, 7})
	wantPut(t, b, 3, true, []byte{0xFF, 0xFF, 0x01}, api.OK)
	wantRuns(t, b, [2]int{17, 7})
	wantPut(t, b, 23, true, []byte{0xFF, 0xFF, 0x81}, api.OK)
	wantRuns(t, b, [2]int{17, 6})
	wantPut(t, b, 24, true, []byte{0xFF, 0xFF, 0x81}, api.ErrBit)
	wantRuns(t, []byte{0xFF})
	wantRuns(t, []byte{0, 0}, [2]int{0, 16})
	wantRuns(t, nil)
	wantRuns(t, []byte{})
}

// P8.1: a bit of a byte is worth 1, 2, 4 .. 128, the lowest first: written out for each, in each of three bytes.
func TestGetWorth(t *testing.T) {
	for k := range 3 {
		for j, worth := range []byte{1, 2, 4, 8, 16, 32, 64, 128} {
			b := make([]byte, 3)
			b[k] = worth
			for i := range 24 {
				wantGet(t, b, i, i == 8*k+j, api.OK)
			}
		}
	}
}

// P8.1: every bit of the samples, and numbers of none, out to the ends of an int.
func TestGetEvery(t *testing.T) {
	for _, b := range samples() {
		for i, on := range plainBits(b) {
			wantGet(t, b, i, on, api.OK)
		}
		for _, i := range noBits(len(b)) {
			wantGet(t, b, i, false, api.ErrBit)
		}
	}
}

// P8.2: every bit of the samples put on and off: that bit, no other one, nor the room about them.
func TestPutEvery(t *testing.T) {
	for _, b := range samples() {
		if len(b) > 3 {
			continue
		}
		l := plainBits(b)
		for i, was := range l {
			for _, on := range []bool{true, false} {
				l[i] = on
				inside, stands := guarded(b)
				wantPut(t, inside, i, on, plainBytes(l), api.OK)
				wantGet(t, inside, i, on, api.OK)
				if !stands() {
					t.Errorf("Put of bit %d of %x, %v: what lies about the bytes has changed", i, b, on)
				}
			}
			l[i] = was
		}
	}
}

// P8.2: bits at the edges of bytes in a long row, and its first and last one.
func TestPutLong(t *testing.T) {
	for _, fill := range []byte{0x00, 0xFF, 0x5A} {
		b := bytes.Repeat([]byte{fill}, 512)
		for _, i := range []int{0, 1, 7, 8, 9, 15, 16, 2047, 2048, 4087, 4088, 4094, 4095} {
			for _, on := range []bool{true, false} {
				l := plainBits(b)
				l[i] = on
				inside, stands := guarded(b)
				wantPut(t, inside, i, on, plainBytes(l), api.OK)
				if !stands() {
					t.Errorf("Put of bit %d, %v: what lies about the bytes has changed", i, on)
				}
			}
		}
	}
}

// P8.2: with a number of no bit nothing changes, in b or about it: bits on either side of it are neither put on nor off.
func TestPutRefused(t *testing.T) {
	for _, b := range samples() {
		for _, i := range noBits(len(b)) {
			for _, on := range []bool{true, false} {
				inside, stands := guarded(b)
				wantPut(t, inside, i, on, b, api.ErrBit)
				if !stands() {
					t.Errorf("Put of bit %d of %d bytes, %v: what lies about them has changed", i, len(b), on)
				}
			}
		}
	}
}

// P8.3: the samples, from each place on and from places ahead of the first bit and behind the last one.
func TestLowestEvery(t *testing.T) {
	for _, b := range samples() {
		l := plainBits(b)
		for from := -3; from <= min(len(l), 40)+3; from++ {
			wantLowest(t, b, from, plainLowest(l, from))
		}
		for _, from := range []int{-8, -9, -1 << 32, least, least + 1} {
			wantLowest(t, b, from, plainLowest(l, 0))
		}
		for _, from := range []int{len(l), len(l) + 1, len(l) + 8, 1 << 32, 1<<32 + 3, most - 1, most} {
			wantLowest(t, b, from, -1)
		}
	}
}

// P8.3: only one bit is off, at each place of a long row; it is found from all places up to it, and none behind it.
func TestLowestOne(t *testing.T) {
	b := bytes.Repeat([]byte{0xFF}, 64)
	for i := range 512 {
		b[i/8] ^= 1 << (i % 8)
		for _, from := range []int{0, i / 2, i - 1, i} {
			wantLowest(t, b, from, i)
		}
		wantLowest(t, b, i+1, -1)
		b[i/8] ^= 1 << (i % 8)
	}
}

// P8.4: every pair of places of the samples up to three bytes, with those outside.
func TestCountEvery(t *testing.T) {
	for _, b := range samples() {
		l := plainBits(b)
		if len(b) > 3 {
			continue
		}
		for from := -2; from <= len(l)+2; from++ {
			for to := -2; to <= len(l)+2; to++ {
				want, err := plainCount(l, from, to)
				wantCount(t, b, from, to, want, err)
			}
		}
	}
}

// P8.4: places out to the ends of an int, right ones beside wrong ones; of a long row all, half of it, the last bits.
func TestCountFar(t *testing.T) {
	b := bytes.Repeat([]byte{0x55}, 512)
	for _, c := range [][3]int{{0, 4096, 2048}, {0, 2048, 1024}, {1, 4096, 2047}, {4095, 4096, 0}, {4094, 4096, 1}, {4096, 4096, 0}, {0, 0, 0}, {7, 9, 1}, {2000, 2000, 0}} {
		wantCount(t, b, c[0], c[1], c[2], api.OK)
	}
	far := append(noBits(512), 4097)
	for _, x := range far {
		for _, y := range []int{0, 1, 8, 4095, 4096} {
			if x > 4096 || x < 0 {
				wantCount(t, b, x, y, 0, api.ErrBit)
				wantCount(t, b, y, x, 0, api.ErrBit)
			}
		}
		for _, y := range far {
			if x != 4096 || y != 4096 {
				wantCount(t, b, x, y, 0, api.ErrBit)
			}
		}
	}
	wantCount(t, nil, 0, 0, 0, api.OK)
	wantCount(t, nil, 0, 1, 0, api.ErrBit)
	wantCount(t, nil, 1, 1, 0, api.ErrBit)
	wantCount(t, nil, -1, 0, 0, api.ErrBit)
	wantCount(t, nil, -1, -1, 0, api.ErrBit)
}

// P8.5: rows at the first bit, at the last one, over the edge of a byte, over whole bytes, written out.
func TestRunsEdges(t *testing.T) {
	wantRuns(t, []byte{0xFE}, [2]int{0, 1})
	wantRuns(t, []byte{0x7F}, [2]int{7, 1})
	wantRuns(t, []byte{0x7E}, [2]int{0, 1}, [2]int{7, 1})
	wantRuns(t, []byte{0x7F, 0xFE}, [2]int{7, 2})
	wantRuns(t, []byte{0xFF, 0xFE}, [2]int{8, 1})
	wantRuns(t, []byte{0x7F, 0xFF}, [2]int{7, 1})
	wantRuns(t, []byte{0x0F, 0x00, 0xF0}, [2]int{4, 16})
	wantRuns(t, []byte{0xFF, 0x00, 0xFF}, [2]int{8, 8})
	wantRuns(t, []byte{0x00, 0xFF, 0x00}, [2]int{0, 8}, [2]int{16, 8})
	wantRuns(t, []byte{0x01, 0x80}, [2]int{1, 14})
	wantRuns(t, []byte{0x80, 0x01}, [2]int{0, 7}, [2]int{9, 7})
	wantRuns(t, []byte{0x55}, [2]int{1, 1}, [2]int{3, 1}, [2]int{5, 1}, [2]int{7, 1})
	wantRuns(t, []byte{0xAA}, [2]int{0, 1}, [2]int{2, 1}, [2]int{4, 1}, [2]int{6, 1})
	wantRuns(t, make([]byte, 512), [2]int{0, 4096})
	wantRuns(t, bytes.Repeat([]byte{0xFF}, 512))
}

// P8.5, P8.7: all bytes, and all pairs of them, against the chapter's words.
func TestRunsEvery(t *testing.T) {
	for _, b := range samples() {
		wantRuns(t, b, plainRuns(plainBits(b))...)
	}
	for x := range 1 << 16 {
		b := []byte{byte(x), byte(x >> 8)}
		wantRuns(t, b, plainRuns(plainBits(b))...)
	}
}

// P8.5: an iterator is gone through again, each time from its beginning, also behind a going through that was left.
func TestRunsAgain(t *testing.T) {
	for _, b := range samples() {
		seq, want := bits.Runs(b), plainRuns(plainBits(b))
		for left := 0; left <= len(want); left++ {
			n := 0
			for range seq {
				if n == left {
					break
				}
				n++
			}
			if rows := rowsOf(seq); !slices.Equal(rows, want) {
				t.Fatalf("Runs of %x, left at row %d and gone through again: %v, want %v", b, left, rows, want)
			}
		}
	}
}

// P8.5: left at each place it tells that place's row as its last one, and asks no more.
func TestRunsLeft(t *testing.T) {
	for _, b := range samples() {
		seq, want := bits.Runs(b), plainRuns(plainBits(b))
		for left := range want {
			var rows [][2]int
			seq(func(at, n int) bool {
				rows = append(rows, [2]int{at, n})
				return len(rows) <= left
			})
			if !slices.Equal(rows, want[:left+1]) {
				t.Fatalf("Runs of %x, left at row %d: %v, want %v", b, left, rows, want[:left+1])
			}
		}
	}
}

// P8.5: inside itself it tells all rows at each row, and the outer one goes on where it was.
func TestRunsInside(t *testing.T) {
	for _, b := range [][]byte{three(), {0x55, 0xAA, 0x0F}, {0x00}, {0xFF}, nil} {
		seq, want := bits.Runs(b), plainRuns(plainBits(b))
		var outer [][2]int
		for at, n := range seq {
			outer = append(outer, [2]int{at, n})
			if inner := rowsOf(seq); !slices.Equal(inner, want) {
				t.Errorf("Runs of %x inside itself at %d: %v, want %v", b, at, inner, want)
			}
			for in := range seq {
				if in != want[0][0] {
					t.Errorf("Runs of %x inside itself begins with %d", b, in)
				}
				break
			}
		}
		if !slices.Equal(outer, want) {
			t.Errorf("Runs of %x about itself: %v, want %v", b, outer, want)
		}
	}
}

// P8.5: two goings through side by side, one of them a row ahead, do not see each other.
func TestRunsBeside(t *testing.T) {
	seq, want := bits.Runs([]byte{0x55, 0x7F, 0xFE}), plainRuns(plainBits([]byte{0x55, 0x7F, 0xFE}))
	ahead, stopAhead := iter.Pull2(seq)
	behind, stopBehind := iter.Pull2(seq)
	defer stopAhead()
	defer stopBehind()
	ahead()
	for i := range want {
		at, n, ok := behind()
		if !ok || [2]int{at, n} != want[i] {
			t.Errorf("row %d behind: %d %d %v, want %v", i, at, n, ok, want[i])
		}
		at, n, ok = ahead()
		if i+1 < len(want) && (!ok || [2]int{at, n} != want[i+1]) || i+1 == len(want) && ok {
			t.Errorf("row %d ahead: %d %d %v", i+1, at, n, ok)
		}
	}
}

// P8.5, P8.6: what is written into b behind the call of Runs is not seen: ahead of the first going through, in the midst of one, and behind it.
func TestRunsOfWhatStood(t *testing.T) {
	for _, b := range samples() {
		want := plainRuns(plainBits(b))
		b = slices.Clone(b)
		seq := bits.Runs(b)
		turn := func() {
			for k := range b {
				b[k] = ^b[k]
			}
		}
		turn()
		if rows := rowsOf(seq); !slices.Equal(rows, want) {
			t.Fatalf("Runs behind a change to %x: %v, want %v", b, rows, want)
		}
		var rows [][2]int
		for at, n := range seq {
			rows = append(rows, [2]int{at, n})
			turn()
		}
		if !slices.Equal(rows, want) {
			t.Fatalf("Runs in which the bytes change: %v, want %v", rows, want)
		}
		for range seq {
			turn()
			bits.Put(b, 0, true)
		}
		if rows := rowsOf(seq); !slices.Equal(rows, want) {
			t.Fatalf("Runs behind changes in the midst: %v, want %v", rows, want)
		}
	}
}

// P8.5: a panic of what is done with a row goes through, and the iterator is whole behind it.
func TestRunsPanic(t *testing.T) {
	seq := bits.Runs(three())
	told := func() (what any) {
		defer func() { what = recover() }()
		for at := range seq {
			panic(at)
		}
		return nil
	}
	if what := told(); what != 3 {
		t.Errorf("a panic at the first row: %v, want 3", what)
	}
	if rows := rowsOf(seq); !slices.Equal(rows, [][2]int{{3, 1}, {17, 7}}) {
		t.Errorf("behind a panic: %v", rows)
	}
}

// P8.6: Get, Lowest, Count and Runs change neither the bytes nor what lies about them, refused or not.
func TestNothingChanges(t *testing.T) {
	for _, b := range samples() {
		inside, stands := guarded(b)
		for _, i := range append(noBits(len(b)), 0, 3, 7, 8, 8*len(b)-1) {
			bits.Get(inside, i)
			bits.Lowest(inside, i)
			bits.Count(inside, i, 8*len(b))
			bits.Count(inside, 0, i)
			bits.Count(inside, i, i)
		}
		seq := bits.Runs(inside)
		for range seq {
			for range seq {
				break
			}
		}
		if !bytes.Equal(inside, b) || !stands() {
			t.Fatalf("%x has become %x, or what lies about it has changed", b, inside)
		}
	}
}

// P8.6: no call keeps b: an iterator's memory is its own, nor does a call see what an earlier one was given.
func TestNothingKept(t *testing.T) {
	b, other := three(), []byte{0x00, 0xFF}
	seq, second := bits.Runs(b), bits.Runs(other)
	wantGet(t, b, 3, false, api.OK)
	wantLowest(t, b, 0, 3)
	wantPut(t, b, 3, true, []byte{0xFF, 0xFF, 0x01}, api.OK)
	wantGet(t, other, 3, false, api.OK)
	wantLowest(t, other, 0, 0)
	wantCount(t, other, 0, 16, 8, api.OK)
	clear(b)
	wantPut(t, other, 3, true, []byte{0x08, 0xFF}, api.OK)
	if !bytes.Equal(b, make([]byte, 3)) {
		t.Errorf("a Put into other bytes has changed these: %x", b)
	}
	if rows := rowsOf(seq); !slices.Equal(rows, [][2]int{{3, 1}, {17, 7}}) {
		t.Errorf("Runs of bytes that are cleared: %v", rows)
	}
	if rows := rowsOf(second); !slices.Equal(rows, [][2]int{{0, 8}}) {
		t.Errorf("Runs of other bytes: %v", rows)
	}
}

// wantWhole asks of b what P8.7 says: each bit is on, or in just one row; Lowest is where the first row begins; the rows and Count together are all bits.
func wantWhole(t *testing.T, b []byte) {
	t.Helper()
	off, first := 0, -1
	seen := make([]int, 8*len(b))
	for at, n := range bits.Runs(b) {
		if first < 0 {
			first = at
		}
		off += n
		for i := at; i < at+n; i++ {
			seen[i]++
		}
	}
	for i, k := range seen {
		on, e := bits.Get(b, i)
		if e != api.OK || on && k != 0 || !on && k != 1 {
			t.Fatalf("bit %d of %x: %v, %d, and in %d rows", i, b, on, e, k)
		}
	}
	if n, e := bits.Count(b, 0, 8*len(b)); n+off != 8*len(b) || e != api.OK {
		t.Errorf("%x: %d bits are on (%d), %d in rows, of %d", b, n, e, off, 8*len(b))
	}
	wantLowest(t, b, 0, first)
}

// P8.7: a bit that is put on is no longer Lowest; one that is put off below Lowest is.
func TestWhatFollows(t *testing.T) {
	for _, b := range samples() {
		b = slices.Clone(b)
		wantWhole(t, b)
		for i := bits.Lowest(b, 0); i >= 0; i = bits.Lowest(b, 0) {
			if e := bits.Put(b, i, true); e != api.OK {
				t.Fatalf("Put of bit %d: %d", i, e)
			}
			if next := bits.Lowest(b, 0); next >= 0 && next <= i {
				t.Fatalf("bit %d is put on, and Lowest is %d", i, next)
			}
		}
		wantRuns(t, b)
		for i := 8*len(b) - 1; i >= 0; i-- {
			if e := bits.Put(b, i, false); e != api.OK {
				t.Fatalf("Put of bit %d: %d", i, e)
			}
			if low := bits.Lowest(b, 0); low != i {
				t.Fatalf("bit %d is put off below Lowest, which is %d", i, low)
			}
		}
		wantWhole(t, b)
	}
}

// trial is random bytes beside their plain bits, with counts of what was answered.
type trial struct {
	t    *testing.T
	r    *rand.Rand
	b    []byte
	l    []bool
	seen map[string]int
}

// place is a number inside the bits mostly, else outside of them.
func (c *trial) place() int {
	if c.r.Intn(8) == 0 {
		return noBits(len(c.b))[c.r.Intn(len(noBits(0)))]
	}
	return c.r.Intn(len(c.l)+4) - 2
}

func (c *trial) errorAt(i int) api.Errno {
	if i < 0 || i >= len(c.l) {
		return api.ErrBit
	}
	return api.OK
}

func (c *trial) get() {
	i := c.place()
	err := c.errorAt(i)
	on := err == api.OK && c.l[i]
	wantGet(c.t, c.b, i, on, err)
	c.seen["Get"+err.Error()]++
}

func (c *trial) put() {
	i, on := c.place(), c.r.Intn(2) == 0
	err := c.errorAt(i)
	if err == api.OK {
		c.l[i] = on
	}
	wantPut(c.t, c.b, i, on, plainBytes(c.l), err)
	c.seen["Put"+err.Error()]++
}

func (c *trial) lowest() {
	from := c.place()
	want := plainLowest(c.l, from)
	wantLowest(c.t, c.b, from, want)
	if want < 0 {
		c.seen["Lowest none"]++
	} else {
		c.seen["Lowest"]++
	}
}

func (c *trial) count() {
	from, to := c.place(), c.place()
	want, err := plainCount(c.l, from, to)
	wantCount(c.t, c.b, from, to, want, err)
	c.seen["Count"+err.Error()]++
}

func (c *trial) runs() {
	want := plainRuns(c.l)
	wantRuns(c.t, c.b, want...)
	if len(want) > 0 {
		c.seen["Runs"]++
	} else {
		c.seen["Runs none"]++
	}
}

// P8.1 to P8.7: rows of calls on random bytes answer as plain bits do.
func TestRandom(t *testing.T) {
	seen := map[string]int{}
	for seed := range int64(300) {
		r := rand.New(rand.NewSource(seed))
		b := randomBytes(r, 24)
		c := &trial{t: t, r: r, b: b, l: plainBits(b), seen: seen}
		acts := []func(){c.get, c.put, c.lowest, c.count, c.runs}
		for range 60 {
			acts[r.Intn(len(acts))]()
		}
		wantWhole(t, c.b)
	}
	for _, what := range []string{"Get" + api.OK.Error(), "Get" + api.ErrBit.Error(), "Put" + api.OK.Error(), "Put" + api.ErrBit.Error(), "Lowest", "Lowest none", "Count" + api.OK.Error(), "Count" + api.ErrBit.Error(), "Runs", "Runs none"} {
		if seen[what] < 20 {
			t.Errorf("%s came %d times", what, seen[what])
		}
	}
}
