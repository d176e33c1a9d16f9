package file_test

import (
	"bytes"
	"fmt"
	"math"
	"slices"
	"strings"
	"testing"

	"bole/api"
	"bole/bmap"
	"bole/file"
)

// touched are the indices in which a byte lies of so many from off on.
func touched(off, count int) []int {
	var ks []int
	for k := off / size; count > 0 && k*size < off+count; k++ {
		ks = append(ks, k)
	}
	return ks
}

// window is what lies of the row, behind a Write of a text, from low up to high or up to the end.
func (s *sparse) window(low, high, off int, text string) string {
	end := max(len(s.row), off+len(text))
	b := make([]byte, max(min(high, end)-low, 0))
	copy(b, s.piece(low, high-low))
	if off >= low {
		copy(b[min(off-low, len(b)):], text)
	} else {
		copy(b, text[low-off:])
	}
	return string(b)
}

// tablesOf is which tables are on the way to an index, of a record.
func (s *sparse) tablesOf(x api.Inode, k int) []int {
	switch {
	case k < 10:
		return nil
	case k < 138:
		return []int{x.One}
	}
	return []int{x.Two, s.inTwo(x, k)}
}

// wrote holds what a Write of a text has done to a file whose blocks had these bytes.
func (s *sparse) wrote(what string, was map[int][]byte, off int, text string) {
	s.t.Helper()
	x := s.record(5)
	if x.Size != max(len(s.row), off+len(text)) || x.Kind != 1 || x.Links != 1 {
		s.t.Errorf("%s: the record is %v", what, x)
	}
	low, high := max(off-1100, 0), off+len(text)+1100
	s.reads(what, 5, low, high-low, s.window(low, high, off, text))

	blocks, _, e := bmap.All(s.x, s.g, x)
	want(s.t, what, e, api.OK)
	ks := touched(off, len(text))
	puts := []int{99}
	for _, b := range blocks {
		k, i := b[0], b[1]
		raw := make([]byte, size)
		old, is := s.at[k]
		if is {
			raw = bytes.Clone(was[k])
		}
		if is && old != i {
			s.t.Errorf("%s: index %d had the block %d and has %d", what, k, old, i)
		}
		if slices.Contains(ks, k) {
			copy(raw[max(off-k*size, 0):], text[max(k*size-off, 0):])
			puts = append(puts, i)
		}
		if !is {
			puts = append(append(puts, 98), s.putTables(x, k)...)
		}
		s.holds(what, i, raw)
	}
	if len(blocks) != len(s.at)+len(ks)-s.have(ks) {
		s.t.Errorf("%s: the blocks are %v", what, blocks)
	}
	s.written(what, puts...)
}

// have is how many of some indices have a block.
func (s *sparse) have(ks []int) int {
	count := 0
	for _, k := range ks {
		if _, is := s.at[k]; is {
			count++
		}
	}
	return count
}

// putTables is which tables are put when an index gets a block: the one that tells it, and those that are new.
func (s *sparse) putTables(x api.Inode, k int) []int {
	tables := s.tablesOf(x, k)
	var puts []int
	for i, n := range tables {
		told := i == len(tables)-1 || !slices.Contains(s.tables, tables[i+1])
		if told || !slices.Contains(s.tables, n) {
			puts = append(puts, n)
		}
	}
	return puts
}

// raw is the bytes of the file's blocks, by index.
func (s *sparse) raw() map[int][]byte {
	raw := map[int][]byte{}
	for k, i := range s.at {
		raw[k] = s.block(i)
	}
	return raw
}

// tryWrite writes, holds what came of it, and takes it back.
func (s *sparse) tryWrite(off int, text string) {
	s.t.Helper()
	what := fmt.Sprintf("P12.2: Write(5, %d, %d bytes) of %d", off, len(text), len(s.row))
	if off+len(text) > most {
		s.still(what, func() { s.write(what, 5, off, text, api.ErrBig) })
		return
	}
	was := s.raw()
	s.write(what, 5, off, text, api.OK)
	s.wrote(what, was, off, text)
	want(s.t, what, s.x.Back(0), api.OK)
}

// P12.2: texts from about each border of blocks on, into blocks and holes, into the midst of a block, over several, behind the end: their bytes stand, all others are as they were, and what is put is just that.
func TestWriteOfPieces(t *testing.T) {
	for _, length := range []int{0, 2, 500, 512, 5120, 5121, 70656, 71000, 150000, most} {
		s := thin(t, 300, length, indices...)
		for _, k := range append(indices, 2, 12, 140, 5000) {
			for i, off := range append(about(k*size), k*size+300) {
				for j, count := range counts[1:] {
					if off >= 0 && (i+j+k)%2 == 0 {
						s.tryWrite(off, text(count, 5))
					}
				}
			}
		}
	}
}

// P12.2: every off and many lengths of a small file.
func TestWriteOfEachByte(t *testing.T) {
	s := thin(t, 128, 1700, 0, 1, 3)
	for off := 0; off <= 2100; off += 11 {
		for count := 1; count <= 1100; count += 47 {
			s.tryWrite(off, text(count, off))
		}
	}
}

// P12.2: zeros take a block too.
func TestWriteOfZeros(t *testing.T) {
	w := fresh(t, 128)
	w.write("P12.2: zeros", 5, 600, zeros(3), api.OK)
	w.blocks("P12.2: zeros", 5, 1)
	w.holds("P12.2: zeros", 101, make([]byte, size))
	w.is("P12.2: zeros", 5, withNumber(sized(aFile, 603), 1, 101))
	s := thin(t, 128, 1000, 0)
	s.tryWrite(100, zeros(300))
	s.tryWrite(0, zeros(1000))
}

// P12.2, D5: blocks are taken from the lowest index on, each behind the tables that it wants, with the record that the one ahead answered.
func TestWriteTakesInOrder(t *testing.T) {
	w := fresh(t, 128)
	w.write("P12.2", 5, 100, text(12*size-100, 1), api.OK)
	x := sized(aFile, 12*size)
	for i := range 10 {
		x.Direct[i] = 101 + i
	}
	x.One = 111
	w.is("P12.2", 5, x)
	w.holds("P12.2", 111, table(map[int]int{0: 112, 1: 113}))
	w.free("P12.2", 14)

	w = fresh(t, 128)
	w.write("P12.2", 5, 136*size+511, text(1026, 1), api.OK)
	w.is("P12.2", 5, api.Inode{Kind: 1, Links: 1, Size: 139*size + 1, One: 101, Two: 104})
	w.holds("P12.2", 101, table(map[int]int{126: 102, 127: 103}))
	w.holds("P12.2", 104, table(map[int]int{0: 105}))
	w.holds("P12.2", 105, table(map[int]int{0: 106, 1: 107}))
	w.written("P12.2", 98, 99, 101, 102, 103, 104, 105, 106, 107)

	w = fresh(t, 128)
	w.write("P12.2", 5, 265*size, text(513, 1), api.OK)
	w.is("P12.2", 5, api.Inode{Kind: 1, Links: 1, Size: 266*size + 1, Two: 101})
	w.holds("P12.2", 101, table(map[int]int{0: 102, 1: 104}))
	w.holds("P12.2", 102, table(map[int]int{127: 103}))
	w.holds("P12.2", 104, table(map[int]int{0: 105}))

	w = fresh(t, 128)
	w.write("P12.2", 5, most-513, text(513, 1), api.OK)
	w.holds("P12.2", 102, table(map[int]int{126: 103, 127: 104}))
	w.reads("P12.2", 5, most-514, 1000, "\x00"+text(513, 1))
}

// P12.2: the record is put, also if nothing in it is another; its size is the greater one.
func TestWriteSizes(t *testing.T) {
	for _, length := range []int{600, 1024} {
		for off := range 1200 {
			if off%50 > 2 && off%512 > 1 && off%512 < 510 && off != length {
				continue
			}
			for _, count := range []int{1, 2, 50, 512} {
				s := thin(t, 128, length, 0, 1)
				x := s.record(5)
				s.write("P12.2", 5, off, text(count, 9), api.OK)
				s.size("P12.2", 5, max(length, off+count))
				s.over(off, text(count, 9))
				s.whole("P12.2")
				if off+count <= length {
					s.is("P12.2: nothing in it is another", 5, x)
				}
				if !slices.Contains(s.x.Written(), 99) {
					t.Errorf("P12.2: Write(5, %d, %d bytes) of %d bytes: the record isn't put", off, count, length)
				}
			}
		}
	}
	s := thin(t, 128, 600, 0, 1)
	s.write("P12.2: the same bytes", 5, 3, s.piece(3, 590), api.OK)
	s.written("P12.2: the same bytes", 99, s.at[0], s.at[1])
	s.whole("P12.2: the same bytes")
}

// P12.2: of no byte nothing is put, wherever; behind the longest file it is ErrBig all the same.
func TestWriteOfNothing(t *testing.T) {
	for _, length := range []int{0, 100, 512, most} {
		s := thin(t, 128, length, 0)
		s.keep(99, 110)
		s.still("P12.2", func() {
			for _, off := range []int{0, 1, 99, 100, 101, 511, 512, 513, 1 << 20, most - 1, most} {
				s.write("P12.2: nothing", 5, off, "", api.OK)
			}
			for _, off := range []int{most + 1, most + 512, 1 << 32, 1 << 62, math.MaxInt - 1, math.MaxInt} {
				s.write("P12.2: nothing, too far", 5, off, "", api.ErrBig)
			}
		})
	}
	// It needs no room, no space, and none of the inode's numbers.
	bad := api.Inode{Kind: 1, Links: 1, Size: 100, Direct: [10]int{5}}
	w := on(t, 300, none, map[int]api.Inode{5: bad}, nil)
	w.stuff(0)
	w.still("P12.2", func() { w.write("P12.2: nothing", 5, 0, "", api.OK) })
}

// P12.2: off and the length together at MaxFile, one above, and more than an int holds; of long texts too.
func TestWriteToMaxFile(t *testing.T) {
	w := fresh(t, 128)
	w.still("P12.2", func() {
		for _, count := range []int{1, 2, 511, 512, 513, 100000, most, most + 1, most + 512} {
			s := strings.Repeat("a", count)
			for _, off := range []int{most - count + 1, most, most + 1, 1 << 32, math.MaxInt - most, math.MaxInt - count, math.MaxInt - count + 1, math.MaxInt - 1, math.MaxInt} {
				w.write("P12.2: too far", 5, max(off, 0), s, api.ErrBig)
			}
		}
		for _, off := range []int{0, 1, most - 1} {
			w.write("P12.2: too long", 5, off, strings.Repeat("a", most+1), api.ErrBig)
		}
		w.write("P12.2: too long for the disk alone", 5, 0, strings.Repeat("a", most), api.ErrSpace)
	})
	for _, count := range []int{1, 2, 511, 512, 513, 1025} {
		w := fresh(t, 128)
		w.write("P12.2: up to the end", 5, most-count, text(count, 1), api.OK)
		w.size("P12.2: up to the end", 5, most)
		w.reads("P12.2: up to the end", 5, most-count, most, text(count, 1))
		w.reads("P12.2: ahead of it", 5, most-count-600, 600, zeros(600))
	}
	w = on(t, 300, all, map[int]api.Inode{5: aFile}, nil)
	w.still("P12.2", func() {
		w.write("P12.2: too long for the transaction alone", 5, 0, strings.Repeat("a", most), api.ErrTooBig)
	})
}

// P12.2: directories and symbolic links by the same calls, as far as their sizes may be.
func TestWriteOfKinds(t *testing.T) {
	w := fresh(t, 128)
	w.still("P12.2: a directory", func() {
		for _, c := range [][2]int{{0, 1}, {0, 511}, {0, 513}, {1, 512}, {512, 1}, {1000, 23}, {1000, 25}} {
			w.write("P12.2: a directory", 1, c[0], text(c[1], 1), api.ErrRecord)
		}
		w.write("P12.2: a directory", 1, 100, "", api.OK)
	})
	w.write("P12.2: a directory", 1, 0, text(1024, 1), api.OK)
	w.is("P12.2: a directory", 1, withNumber(withNumber(sized(aDir, 1024), 0, 101), 1, 102))
	w.write("P12.2: inside it", 1, 700, "abc", api.OK)
	w.size("P12.2: inside it", 1, 1024)
	w.reads("P12.2: inside it", 1, 0, 2000, text(700, 1)+"abc"+text(1024, 1)[703:])
	w.write("P12.2: its last byte", 1, 1535, "z", api.OK)
	w.size("P12.2: its last byte", 1, 1536)
	w.still("P12.2: a directory", func() { w.write("P12.2: a directory", 1, 1535, "zz", api.ErrRecord) })

	w = fresh(t, 128)
	w.write("P12.2: a link", 2, 0, text(1024, 1), api.OK)
	w.is("P12.2: a link", 2, withNumber(withNumber(sized(aLink, 1024), 0, 101), 1, 102))
	w.still("P12.2: a link", func() {
		w.write("P12.2: a link", 2, 1024, "a", api.ErrRecord)
		w.write("P12.2: a link", 2, 1000, text(25, 1), api.ErrRecord)
		w.write("P12.2: a link", 2, 5000, "a", api.ErrRecord)
	})
	w.write("P12.2: a link", 2, 1023, "a", api.OK)
	w.reads("P12.2: a link", 2, 0, 2000, text(1023, 1)+"a")
	w = on(t, 128, all, map[int]api.Inode{5: {Kind: 1, Links: 0}}, nil)
	w.write("P12.2: a file without a name", 5, 0, "a", api.OK)
	w.is("P12.2: a file without a name", 5, withNumber(api.Inode{Kind: 1, Size: 1}, 0, 101))
}

// wants is how many blocks and tables a Write takes, of a file with blocks at some indices.
func wants(have []int, off, count int) int {
	parts := map[string]bool{}
	add := func(k int) {
		parts[fmt.Sprint("block ", k)] = true
		if k >= 10 && k < 138 {
			parts["One"] = true
		}
		if k >= 138 {
			parts["Two"] = true
			parts[fmt.Sprint("table ", (k-138)/128)] = true
		}
	}
	for _, k := range have {
		add(k)
	}
	before := len(parts)
	for _, k := range touched(off, count) {
		add(k)
	}
	return len(parts) - before
}

// shapes are Writes that want few blocks and tables, and many.
var shapes = []struct {
	have       []int
	off, count int
}{
	{nil, 0, 1},
	{nil, 511, 2},
	{nil, 9 * size, 512},
	{nil, 9 * size, 513},
	{nil, 10 * size, 1},
	{[]int{10}, 11 * size, 1},
	{[]int{0, 2}, 100, 1400},
	{[]int{9, 11}, 8 * size, 5 * size},
	{nil, 138*size - 1, 1},
	{nil, 138*size - 1, 2},
	{nil, 138 * size, 1},
	{[]int{137}, 137 * size, 513},
	{[]int{138}, 137*size + 5, 508},
	{[]int{138}, 265*size + 5, 508},
	{nil, 265 * size, 513},
	{[]int{264}, 264 * size, 1025},
	{[]int{last}, most - 513, 513},
	{nil, most - 1, 1},
	{[]int{0, 1}, 3, 900},
	{nil, 0, 13 * size},
}

// P12.5: ErrSpace just if more blocks and tables are wanted than are free; with the last one taken nothing is free.
func TestWriteWithoutSpace(t *testing.T) {
	for _, c := range shapes {
		need := wants(c.have, c.off, c.count)
		for _, left := range []int{0, 1, need - 2, need - 1, need, need + 1} {
			if left < 0 {
				continue
			}
			s := thin(t, 128, lengthOf(c.have), c.have...)
			s.leave(left)
			what := fmt.Sprintf("P12.5: Write(%d, %d bytes) over %v, %d free", c.off, c.count, c.have, left)
			if left < need {
				s.keep(99)
				s.still(what, func() { s.write(what, 5, c.off, text(c.count, 4), api.ErrSpace) })
				s.whole(what)
				s.free(what, left)
				continue
			}
			s.write(what, 5, c.off, text(c.count, 4), api.OK)
			s.free(what, left-need)
			s.reads(what, 5, c.off, c.count, text(c.count, 4))
		}
	}
}

// lengthOf is a size with a block at each of these indices.
func lengthOf(have []int) int {
	if len(have) == 0 {
		return 0
	}
	return slices.Max(have)*size + 100
}

// leave takes data blocks for nobody, till so many are free.
func (w *world) leave(count int) {
	w.t.Helper()
	b := w.block(98)
	free := 0
	for k := w.g.Data; k < w.g.Blocks; k++ {
		if b[k/8]>>(k%8)&1 == 1 {
			continue
		}
		if free++; free > count {
			b[k/8] |= 1 << (k % 8)
		}
	}
	w.lay(98, b)
	w.again()
}

// P12.2: ErrTooBig just if more is to be put than the transaction has room for; all of it is taken back then.
func TestWriteWithoutRoom(t *testing.T) {
	for _, c := range shapes {
		for _, known := range []bool{false, true} {
			first := thin(t, 300, lengthOf(c.have), c.have...)
			first.write("P12.2", 5, c.off, text(c.count, 4), api.OK)
			puts := first.x.Written()
			need := len(puts)
			for _, room := range []int{0, 1, 2, need - 2, need - 1, need, need + 1} {
				if room < 0 {
					continue
				}
				s := thin(t, 300, lengthOf(c.have), c.have...)
				need := need
				if known {
					s.keep(99)
					need--
				}
				s.stuff(room)
				what := fmt.Sprintf("P12.2: Write(%d, %d bytes) over %v, the record put %v, room for %d", c.off, c.count, c.have, known, room)
				if room < need {
					s.still(what, func() { s.write(what, 5, c.off, text(c.count, 4), api.ErrTooBig) })
					s.whole(what)
					continue
				}
				after := append(s.x.Written(), puts...)
				s.write(what, 5, c.off, text(c.count, 4), api.OK)
				s.written(what, after...)
			}
		}
	}
}

// P12.2, W7: on a disk that is wrong a call goes on index by index: each block is read when its turn comes, and tables too.
func TestWriteIndexByIndex(t *testing.T) {
	// One block at two indices: the bytes of the later one stand.
	x := withNumber(withNumber(sized(aFile, 100), 0, 110), 1, 110)
	w := on(t, 128, none, map[int]api.Inode{5: x}, nil)
	w.write("P12.2: one block twice", 5, 500, text(512, 3), api.OK)
	b := filled(7)
	copy(b[500:], text(512, 3)[:12])
	copy(b, text(512, 3)[12:])
	w.holds("P12.2: one block twice", 110, b)
	w.written("P12.2: one block twice", 99, 110)
	w.is("P12.2: one block twice", 5, sized(x, 1012))

	// A block that is the table of the next index: the way to that one goes through what was written.
	x = withNumber(withNumber(sized(aFile, 6000), 9, 110), 10, 110)
	w = on(t, 128, none, map[int]api.Inode{5: x}, map[int][]byte{110: table(map[int]int{0: 120})})
	s := string(table(map[int]int{0: 121, 5: 122})) + "abc"
	w.write("P12.2: a table", 5, 9*size, s, api.OK)
	w.holds("P12.2: a table", 110, []byte(s[:size]))
	w.holds("P12.2: a table", 120, filled(7))
	w.holds("P12.2: a table", 121, append([]byte("abc"), filled(7)[3:]...))
	w.written("P12.2: a table", 99, 110, 121)
	w.lay(110, table(map[int]int{0: 120}))
	w.still("P12.2: a table with a bad number", func() {
		w.write("P12.2: a table with a bad number", 5, 9*size, string(table(map[int]int{0: 99}))+"a", api.ErrPointer)
	})

	// A block that the bitmap calls free is taken for an index behind it: then its bytes are zeros again.
	x = withNumber(sized(aFile, 100), 0, 110)
	w = on(t, 128, only(110), map[int]api.Inode{5: x}, nil)
	w.write("P12.2: a free one", 5, 0, text(600, 3), api.OK)
	w.is("P12.2: a free one", 5, sized(withNumber(x, 1, 110), 600))
	w.holds("P12.2: a free one", 110, append([]byte(text(600, 3)[512:]), make([]byte, 424)...))
}

// P12.2: numbers of indices in which no byte lies aren't looked at.
func TestWriteLooksAtItsIndices(t *testing.T) {
	bad := api.Inode{Kind: 1, Links: 1, Size: most, One: 5, Two: 1 << 31}
	for i := range bad.Direct {
		bad.Direct[i] = 100
	}
	x := withNumber(withNumber(bad, 3, 110), 4, 111)
	w := on(t, 128, all, map[int]api.Inode{5: x}, nil)
	w.write("P12.2", 5, 3*size, text(1024, 1), api.OK)
	w.written("P12.2", 99, 110, 111)
	w.is("P12.2", 5, x)
	w.still("P12.2", func() {
		w.write("P12.2: one ahead", 5, 3*size-1, text(2, 1), api.ErrPointer)
		w.write("P12.2: one behind", 5, 4*size, text(513, 1), api.ErrPointer)
		for _, off := range []int{0, 9 * size, 10 * size, 137 * size, 138 * size, most - 1} {
			w.write("P12.2", 5, off, "a", api.ErrPointer)
		}
	})
}

// P12.2: with the power out a Write does what it does, if all that it reads is put.
func TestWriteWithThePowerOut(t *testing.T) {
	for _, c := range shapes {
		s := thin(t, 300, lengthOf(c.have), c.have...)
		x := s.record(5)
		reads := []int{99, 98}
		for _, k := range touched(c.off, c.count) {
			if s.have([]int{k}) == 1 {
				reads = append(reads, s.at[k])
			}
		}
		s.keep(append(reads, s.tables...)...)
		s.d.Crash(nil)
		s.write("P12.2: down", 5, c.off, text(c.count, 4), api.OK)
		if y := s.record(5); y.Size != max(x.Size, c.off+c.count) {
			t.Errorf("P12.2: down: the size is %d", y.Size)
		}
		s.reads("P12.2: down", 5, c.off, c.count, text(c.count, 4))
	}
	// A block whose bytes all are written is read all the same.
	for _, c := range [][2]int{{0, 512}, {100, 3}, {500, 600}} {
		for missing := range 2 {
			s := thin(t, 300, 1024, 0, 1)
			s.keep(99, s.at[1-missing])
			s.d.Crash(nil)
			what := fmt.Sprintf("P12.2: down, block %d", missing)
			if missing == 1 && c[0]+c[1] <= size {
				s.write(what, 5, c[0], text(c[1], 1), api.OK)
				continue
			}
			s.still(what, func() { s.write(what, 5, c[0], text(c[1], 1), api.ErrDown) })
		}
	}
}

// P12.2, W3: what was written stays, whatever becomes of what was handed in or answered.
func TestWriteKeepsNothing(t *testing.T) {
	w := fresh(t, 128)
	b := []byte(text(700, 1))
	w.write("P12.2", 5, 0, string(b), api.OK)
	clear(b)
	w.reads("P12.2", 5, 0, 1000, text(700, 1))
	clear(w.block(101))
	w.reads("P12.2", 5, 0, 1000, text(700, 1))
	first, _ := file.Read(w.x, w.g, 5, 0, 1000)
	w.write("P12.2", 5, 0, text(700, 2), api.OK)
	if first != text(700, 1) {
		t.Error("W3: a text that was answered has changed")
	}
}
