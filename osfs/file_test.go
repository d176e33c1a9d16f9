package osfs_test

import (
	"bytes"
	"math"
	"strings"
	"testing"

	"bole/api"
	"bole/geo"
	"bole/inode"
	"bole/osfs"
	"bole/txn"
)

// spoils changes the record of what a path names behind the back of the file system: so a call is refused where on a right disk none would be.
func (b *desk) spoils(path string, change func(x *api.Inode)) {
	b.t.Helper()
	n := b.call(api.CallLstat, path, "").Stat.Inode
	g, _ := geo.Of(b.d.Blocks())
	tx := txn.Begin(b.d)
	x, e := inode.Get(tx, g, n)
	change(&x)
	if e != api.OK || inode.Put(tx, g, n, x) != api.OK || tx.Commit() != api.OK {
		b.t.Fatalf("the record of %s can't be spoiled", path)
	}
}

// spoilsCells lets a directory's first block be one that no directory has: CallLstat of it is taken, and CallReaddir refused.
func (b *desk) spoilsCells(path string) {
	b.t.Helper()
	b.spoils(path, func(x *api.Inode) {
		if b.d.Write(x.Direct[0], bytes.Repeat([]byte{255}, api.BlockSize)) != api.OK {
			b.t.Fatalf("the cells of %s can't be spoiled", path)
		}
	})
	if a, c := b.call(api.CallLstat, path, ""), b.call(api.CallReaddir, path, ""); a.Err != api.OK || c.Err != api.ErrCell {
		b.t.Fatalf("of %s, whose cells are spoiled, CallLstat answers %d, CallReaddir %d", path, a.Err, c.Err)
	}
}

// noTables lets all indices from 138 on lead to no block that a file may have.
func noTables(x *api.Inode) { x.Two = 1 }

// long is a file of so many bytes, made by the calls below.
func (b *desk) long(path string, n int) []byte {
	b.t.Helper()
	b.call(api.CallCreate, path, "")
	all := pattern(n)
	for off := 0; off < n; off += api.MaxIO {
		part := all[off:min(off+api.MaxIO, n)]
		if a := b.table.Do(api.Call{Kind: api.CallWrite, Path: path, Offset: off, Data: string(part)}); a.Err != api.OK {
			b.t.Fatalf("no file of %d bytes: %d", n, a.Err)
		}
	}
	return all
}

// reads makes a Read of n bytes into the midst of a greater slice: it is to answer these bytes and this error, and to leave all else as it was.
func reads(t *testing.T, x *osfs.File, n int, want []byte, end error) {
	t.Helper()
	whole := bytes.Repeat([]byte("#"), n+60)
	p := whole[10 : 10+n : 40+n]
	k, err := x.Read(p)
	if k != len(want) || err != end {
		t.Errorf("P22.3: Read of %d: %d, %v, want %d, %v", n, k, err, len(want), end)
		return
	}
	holdsWithin(t, whole, want)
}

// holdsWithin holds that bytes stand from the tenth place on, and nothing was written around them.
func holdsWithin(t *testing.T, whole, want []byte) {
	t.Helper()
	end := 10 + len(want)
	if !bytes.Equal(whole[10:end], want) {
		t.Errorf("P22.3: the bytes are %s, want %s", short(whole[10:end]), short(want))
	}
	if strings.Trim(string(whole[:10]), "#") != "" || strings.Trim(string(whole[end:]), "#") != "" {
		t.Errorf("P22.3: bytes around the %d that were read have changed", len(want))
	}
}

// P22.3: of no bytes, of fewer and more than are left, at the end and behind it.
func TestRead(t *testing.T) {
	b := fresh(t, 128).lays("/f=0123456789")
	x := b.open("/f", r)
	reads(t, x, 0, nil, nil)
	reads(t, x, 1, []byte("0"), nil)
	reads(t, x, 4, []byte("1234"), nil)
	reads(t, x, 0, nil, nil)
	reads(t, x, 5, []byte("56789"), nil)
	reads(t, x, 1, nil, osfs.EOF)
	reads(t, x, 0, nil, nil)
	reads(t, x, 100, nil, osfs.EOF)
	reads(t, x, api.MaxIO+1, nil, osfs.EOF)
	x.Seek(-3, api.FromEnd)
	reads(t, x, 100, []byte("789"), nil)
	reads(t, x, 100, nil, osfs.EOF)
	x.Seek(-3, api.FromEnd)
	reads(t, x, 3, []byte("789"), nil)
	for _, far := range []int64{10, 11, 5000, api.MaxFile} {
		x.Seek(far, api.FromStart)
		reads(t, x, 5, nil, osfs.EOF)
		reads(t, x, 0, nil, nil)
		if place(t, x) != int(far) {
			t.Errorf("P22.3: a Read behind the end moves the place from %d to %d", far, place(t, x))
		}
	}
	x.Seek(0, api.FromStart)
	if n, err := x.Read(nil); n != 0 || err != nil || place(t, x) != 0 {
		t.Errorf("P22.3: Read of nil: %d, %v", n, err)
	}
	reads(t, b.open("/f", rw|behind), 4, []byte("0123"), nil)
	reads(t, b.open("/new", rw|create), 4, nil, osfs.EOF)
}

// P22.3: Read of no bytes makes no call: not of a file that may not be read, and not with the power out; but a closed file comes first.
func TestReadOfNothing(t *testing.T) {
	b := fresh(t, 128).lays("/f=0123456789")
	x, y := b.open("/f", w), b.open("/f", r)
	reads(t, x, 0, nil, nil)
	n, err := x.Read(make([]byte, 1))
	fails(t, err, "read", "/f", 212)
	if n != 0 {
		t.Errorf("P22.3: %d bytes of a file that may not be read", n)
	}
	b.d.Crash(nil)
	reads(t, x, 0, nil, nil)
	reads(t, y, 0, nil, nil)
	n, err = y.Read(make([]byte, 1))
	fails(t, err, "read", "/f", 30)
	if n != 0 {
		t.Errorf("P22.3: %d bytes with the power out", n)
	}
	x.Close()
	y.Close()
	for _, p := range [][]byte{nil, {}, make([]byte, 1)} {
		n, err := x.Read(p)
		isClosed(t, err, "read", "/f")
		if n != 0 {
			t.Errorf("P22.3: a closed file: %d", n)
		}
	}
}

// P22.3: of MaxIO bytes, one fewer and one more, and of several times that, in files whose length is about as much.
func TestReadInPieces(t *testing.T) {
	const m = api.MaxIO
	b := fresh(t, 1024)
	for _, size := range []int{m - 1, m, m + 1, 2*m - 1, 2 * m, 2*m + 1, 3*m + 77, 5 * m} {
		name := "/f"
		all := b.long(name, size)
		for _, n := range []int{1, m - 1, m, m + 1, 2*m - 1, 2 * m, 2*m + 1, 3 * m, 3*m + 77, 5 * m, 5*m + 1, 7 * m} {
			for _, from := range []int{0, 1, 500, size - m, size - 1} {
				if from < 0 {
					continue
				}
				x := b.open(name, r)
				x.Seek(int64(from), api.FromStart)
				end := min(from+n, size)
				reads(t, x, n, all[from:end], nil)
				if place(t, x) != end {
					t.Errorf("P22.3: behind Read of %d from %d on the place is %d", n, from, place(t, x))
				}
				if end == size {
					reads(t, x, n, nil, osfs.EOF)
				} else {
					reads(t, x, 1, all[end:end+1], nil)
				}
				x.Close()
			}
		}
		good(t, "Remove", b.Remove(name))
	}
	b.numbers(0)
}

// P22.3: bytes that are holes are zeros.
func TestReadHoles(t *testing.T) {
	b := fresh(t, 128).lays("/f=ab")
	x := b.open("/f", rw)
	x.Seek(40000, api.FromStart)
	x.Write([]byte("cd"))
	x.Seek(0, api.FromStart)
	reads(t, x, 50000, []byte("ab"+rep("\x00", 39998)+"cd"), nil)
}

// P22.3: one of the Reads is refused behind others: how many bytes those told, and its error; what was read stands in p, and no more.
func TestReadRefusedBehindOthers(t *testing.T) {
	const m = api.MaxIO
	b := fresh(t, 1024)
	all := b.long("/f", 6*m)
	x := b.open("/f", r)
	b.spoils("/f", noTables) // the bytes from 70656 on, in the fifth piece of MaxIO
	for _, c := range []struct {
		from, n, want int
		refused       bool
	}{
		{0, 6 * m, 4 * m, true}, {0, 70656, 70656, false}, {0, 70657, 4 * m, true}, {100, 5 * m, 4 * m, true}, {6000, 4 * m, 3 * m, true}, {2 * m, 3 * m, 2 * m, true},
		{4 * m, 5120, 5120, false}, {4 * m, 5121, 0, true}, {70655, 1, 1, false}, {70656, 1, 0, true}, {70656, 3 * m, 0, true},
	} {
		x.Seek(int64(c.from), api.FromStart)
		whole := bytes.Repeat([]byte("#"), c.n+60)
		n, err := x.Read(whole[10 : 10+c.n])
		if c.refused {
			fails(t, err, "read", "/f", 100)
		} else {
			good(t, "Read", err)
		}
		if n != c.want || place(t, x) != c.from+c.want {
			t.Errorf("P22.3: Read of %d from %d on: %d, and the place is %d, want %d", c.n, c.from, n, place(t, x), c.want)
			continue
		}
		holdsWithin(t, whole, all[c.from:c.from+n])
	}
}

// writes makes a Write of bytes that lie in the midst of others: they are not to be changed.
func writes(t *testing.T, x *osfs.File, data []byte) (int, error) {
	t.Helper()
	whole := bytes.Repeat([]byte("#"), len(data)+60)
	p := whole[10 : 10+len(data) : 40+len(data)]
	copy(p, data)
	n, err := x.Write(p)
	holdsWithin(t, whole, data)
	return n, err
}

// wrote makes a Write that is to take all.
func wrote(t *testing.T, x *osfs.File, data []byte) {
	t.Helper()
	if n, err := writes(t, x, data); n != len(data) || err != nil {
		t.Errorf("P22.4: Write of %d: %d, %v", len(data), n, err)
	}
}

// P22.4: of MaxIO bytes, one fewer, one more, several times that: as many Writes below as there are pieces, and the bytes stand where the place was.
func TestWriteInPieces(t *testing.T) {
	const m = api.MaxIO
	for _, n := range []int{1, 511, 512, m - 1, m, m + 1, 2*m - 1, 2 * m, 2*m + 1, 4*m + 99} {
		for _, from := range []int{0, 1, 700} {
			b := fresh(t, 1024).lays("/f=0123456789")
			x := b.open("/f", w)
			x.Seek(int64(from), api.FromStart)
			before := b.flushes()
			data := pattern(n)
			wrote(t, x, data)
			if got, want := b.flushes()-before, 4*((n+m-1)/m); got != want {
				t.Errorf("P22.4: Write of %d bytes has %d flushes, want %d", n, got, want)
			}
			if place(t, x) != from+n {
				t.Errorf("P22.4: behind Write of %d from %d on the place is %d", n, from, place(t, x))
			}
			want := make([]byte, max(10, from+n))
			copy(want, "0123456789")
			copy(want[from:], data)
			b.holds("/f", want)
		}
	}
}

// P22.4: Write of no bytes is one Write of "": refused where that is, and with AppendFlag the place is the end behind it.
func TestWriteOfNothing(t *testing.T) {
	b := fresh(t, 128).lays("/f=0123456789")
	for _, p := range [][]byte{nil, {}, []byte("xyz")[:0]} {
		x, y, z := b.open("/f", w), b.open("/f", r), b.open("/f", rw|behind)
		before := b.steps()
		x.Seek(4, api.FromStart)
		if n, err := x.Write(p); n != 0 || err != nil || place(t, x) != 4 {
			t.Errorf("P22.4: Write of no bytes: %d, %v, and the place is %d", n, err, place(t, x))
		}
		x.Seek(4000, api.FromStart)
		if n, err := x.Write(p); n != 0 || err != nil || place(t, x) != 4000 {
			t.Errorf("P22.4: Write of no bytes: %d, %v, and the place is %d", n, err, place(t, x))
		}
		n, err := y.Write(p)
		fails(t, err, "write", "/f", 212)
		if n != 0 {
			t.Errorf("W2: %d beside an error", n)
		}
		z.Seek(4, api.FromStart)
		if n, err := z.Write(p); n != 0 || err != nil || place(t, z) != 10 {
			t.Errorf("P22.4: Write of no bytes with AppendFlag: %d, %v, and the place is %d", n, err, place(t, z))
		}
		if b.steps() != before {
			t.Errorf("D9: Write of no bytes has a step")
		}
		good(t, "Close", x.Close())
		good(t, "Close", y.Close())
		good(t, "Close", z.Close())
	}
	b.holds("/f", []byte("0123456789"))
	x := b.open("/f", w)
	b.d.Crash(nil)
	_, err := x.Write(nil)
	fails(t, err, "write", "/f", 30)
}

// P22.4: with AppendFlag every piece is at the end.
func TestWriteAppends(t *testing.T) {
	b := fresh(t, 512).lays("/f=0123456789")
	x, y := b.open("/f", rw|behind), b.open("/f", w)
	data := pattern(2*api.MaxIO + 5)
	wrote(t, x, data[:3])
	wrote(t, y, []byte("ab"))
	x.Seek(0, api.FromStart)
	wrote(t, x, data[3:])
	if place(t, x) != 10+len(data) {
		t.Errorf("P22.4: the place is %d", place(t, x))
	}
	b.holds("/f", append([]byte("ab23456789"), data...))
	x.Seek(1, api.FromStart)
	reads(t, x, 4, []byte("b234"), nil)
}

// P22.4: a later Write is refused for want of room, or for too long a file: how many bytes were taken; those stay, and the place is behind them.
func TestWriteRefusedBehindOthers(t *testing.T) {
	const m = api.MaxIO
	for _, c := range []struct {
		blocks, from, n, want int
		e                     api.Errno
	}{
		{128, 0, m, 0, api.ErrSpace},
		{128, 0, 3 * m, 0, api.ErrSpace},
		{160, 0, m + 1, m + 1, api.OK},
		{160, 0, 2 * m, m, api.ErrSpace},
		{160, 77, 5 * m, m, api.ErrSpace},
		{256, 0, 10 * m, 4 * m, api.ErrSpace},
		{256, api.MaxFile - m, m, m, api.OK},
		{256, api.MaxFile - m, m + 1, m, api.ErrBig},
		{256, api.MaxFile - 3*m + 1, 3 * m, 2 * m, api.ErrBig},
		{256, api.MaxFile, 1, 0, api.ErrBig},
	} {
		for _, flags := range []int{w, rw | behind} {
			b := fresh(t, c.blocks).lays("/f=")
			b.table.Do(api.Call{Kind: api.CallTruncate, Path: "/f", Size: c.from})
			x := b.open("/f", flags)
			x.Seek(int64(c.from), api.FromStart)
			data := pattern(c.n)
			n, err := writes(t, x, data)
			if c.e != api.OK {
				fails(t, err, "write", "/f", c.e)
			} else {
				good(t, "Write", err)
			}
			if n != c.want || place(t, x) != c.from+c.want {
				t.Errorf("P22.4: Write of %d from %d on a disk of %d blocks: %d, and the place is %d, want %d", c.n, c.from, c.blocks, n, place(t, x), c.want)
			}
			if st := b.call(api.CallStat, "/f", "").Stat; st.Size != c.from+c.want {
				t.Errorf("W2: the size is %d, want %d", st.Size, c.from+c.want)
			}
			y := b.open("/f", r)
			y.Seek(int64(c.from), api.FromStart)
			if c.want > 0 {
				reads(t, y, c.n, data[:c.want], nil)
			} else {
				reads(t, y, c.n, nil, osfs.EOF)
			}
			b.right("a Write")
		}
	}
}

// P22.4, W2: the power goes in one of the Writes: how many bytes the ones ahead had; behind a mount those stand, or those and the piece in which it went.
func TestPowerGoesInWrite(t *testing.T) {
	const m = api.MaxIO
	data := pattern(2*m + 1000)
	image := fresh(t, 512).lays("/f=").d.Image()
	seen := map[[2]int]int{}
	for at := 1; ; at++ {
		b := opened(t, image)
		x := b.open("/f", w)
		b.d.Arm(api.Crash{At: at, Keep: []bool{true, at%2 == 0, true, at%3 == 0}})
		n, err := writes(t, x, data)
		if !b.d.Down() {
			if n != len(data) || err != nil {
				t.Errorf("P22.4: Write: %d, %v", n, err)
			}
			break
		}
		fails(t, err, "write", "/f", 30)
		fails(t, x.Close(), "close", "/f", 30)
		isClosed(t, x.Close(), "close", "/f")
		b.numbers(0)
		c := b.twin()
		got := c.bytes("/f")
		seen[[2]int{n, len(got)}]++
		if n%m != 0 || len(got) != n && len(got) != min(n+m, len(data)) || !bytes.Equal(got, data[:len(got)]) {
			t.Errorf("P22.4: the power goes at the step %d of a Write: %d, and behind a mount the file has %s", at, n, short(got))
		}
	}
	for _, k := range [][2]int{{0, 0}, {0, m}, {m, m}, {m, 2 * m}, {2 * m, 2 * m}, {2 * m, len(data)}} {
		if seen[k] == 0 {
			t.Errorf("no power cut told %d bytes and left %d", k[0], k[1])
		}
	}
}

// P22.5: Seek by each whence, with offsets up to the greatest and the least that there are.
func TestSeek(t *testing.T) {
	b := fresh(t, 128).lays("/f=0123456789")
	for _, flags := range []int{r, w, rw | behind} {
		x := b.open("/f", flags)
		for _, c := range []struct {
			off    int64
			whence int
			want   int64
		}{
			{0, 0, 0}, {7, 0, 7}, {0, 1, 7}, {3, 1, 10}, {-10, 1, 0}, {0, 2, 10}, {-10, 2, 0}, {5, 2, 15}, {api.MaxFile, 0, api.MaxFile}, {0, 1, api.MaxFile},
			{-api.MaxFile, 1, 0}, {api.MaxFile - 10, 2, api.MaxFile}, {-1, 1, api.MaxFile - 1}, {4, 0, 4},
		} {
			if n, err := x.Seek(c.off, c.whence); n != c.want || err != nil {
				t.Errorf("P22.5: Seek(%d, %d): %d, %v, want %d", c.off, c.whence, n, err, c.want)
			}
		}
		for _, c := range []struct {
			off    int64
			whence int
		}{
			{-1, 0}, {api.MaxFile + 1, 0}, {-5, 1}, {api.MaxFile - 3, 1}, {-11, 2}, {api.MaxFile - 9, 2}, {0, 3}, {0, -1}, {0, math.MaxInt}, {0, math.MinInt}, {0, 1 << 32}, {2, 1<<32 + 1},
			{math.MaxInt64, 0}, {math.MaxInt64, 1}, {math.MaxInt64, 2}, {math.MinInt64, 0}, {math.MinInt64, 1}, {math.MinInt64, 2}, {math.MaxInt64 - 3, 1}, {math.MinInt64 + 1, 2},
			{1 << 32, 0}, {1<<32 + 4, 0}, {-1 << 32, 1}, {-1<<32 + 1, 2}, {math.MaxInt64, 3}, {1 << 62, 1}, {math.MaxUint32, 2},
		} {
			n, err := x.Seek(c.off, c.whence)
			fails(t, err, "seek", "/f", 1)
			if n != 0 || place(t, x) != 4 {
				t.Errorf("P22.5: Seek(%d, %d) is refused: %d, and the place is %d", c.off, c.whence, n, place(t, x))
			}
		}
		good(t, "Close", x.Close())
	}
	x := b.open("/f", r)
	b.d.Crash(nil)
	n, err := x.Seek(0, api.FromEnd)
	fails(t, err, "seek", "/f", 30)
	if n != 0 {
		t.Errorf("W2: %d beside an error", n)
	}
	_, err = x.Seek(0, 3)
	fails(t, err, "seek", "/f", 1)
	if n, err := x.Seek(5, api.FromStart); n != 5 || err != nil {
		t.Errorf("P22.5: a Seek that asks nothing of the file system: %d, %v", n, err)
	}
}

// holdClosed holds what each call of a closed file answers.
func holdClosed(t *testing.T, x *osfs.File, name string) {
	t.Helper()
	p := []byte("....")
	for _, n := range []int{0, 4} {
		k, err := x.Read(p[:n])
		isClosed(t, err, "read", name)
		l, err := x.Write(p[:n])
		isClosed(t, err, "write", name)
		if k != 0 || l != 0 || string(p) != "...." {
			t.Errorf("P22.3, P22.4: a closed file: %d, %d, %q", k, l, p)
		}
	}
	for _, off := range []int64{0, 3, -1, math.MaxInt64} {
		for whence := -1; whence < 4; whence++ {
			k, err := x.Seek(off, whence)
			isClosed(t, err, "seek", name)
			if k != 0 {
				t.Errorf("P22.5: a closed file: %d", k)
			}
		}
	}
	isClosed(t, x.Close(), "close", name)
	if x.Name() != name {
		t.Errorf("P22.2: the name of a closed file is %q", x.Name())
	}
}

// P22.5: behind Close a file is closed, also where its number is another one's by then.
func TestClose(t *testing.T) {
	b := fresh(t, 128).lays("/f=0123456789", "/g=abc")
	x := b.open("/f", rw)
	b.numbers(1)
	good(t, "Close", x.Close())
	b.numbers(0)
	holdClosed(t, x, "/f")
	y := b.open("/g", rw)
	holdClosed(t, x, "/f")
	b.numbers(1)
	reads(t, y, 9, []byte("abc"), nil)
	good(t, "Close", y.Close())
	b.stands("/f=0123456789", "/g=abc")
}

// P22.5: Close that is refused: the file is closed all the same, once.
func TestCloseRefused(t *testing.T) {
	b := fresh(t, 128).lays("/f=0123456789", "/g=abc")
	x, y := b.open("/f", r), b.open("/g", rw)
	b.spoils("/f", noTables)
	fails(t, x.Close(), "close", "/f", 100)
	holdClosed(t, x, "/f")
	b.numbers(1)
	b.d.Crash(nil)
	fails(t, y.Close(), "close", "/g", 30)
	holdClosed(t, y, "/g")
	b.numbers(0)

	b = fresh(t, 128).lays("/f=0123456789")
	x = b.open("/f", rw)
	good(t, "Remove", b.Remove("/f"))
	b.d.Arm(api.Crash{At: 2})
	fails(t, x.Close(), "close", "/f", 30)
	holdClosed(t, x, "/f")
	b.numbers(0)
	b.twin().stands()
}
