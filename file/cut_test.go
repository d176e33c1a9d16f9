package file_test

import (
	"bytes"
	"fmt"
	"math"
	"slices"
	"testing"

	"bole/api"
	"bole/bmap"
)

// wantCut holds what a Cut to a size has done to a file whose blocks had these bytes.
func (s *sparse) wantCut(what string, was map[int][]byte, to int) {
	s.t.Helper()
	x := s.record(5)
	if x.Size != to || x.Kind != 1 || x.Links != 1 {
		s.t.Errorf("%s: the record is %v", what, x)
	}
	blocks, tables, e := bmap.All(s.x, s.g, x)
	want(s.t, what, e, api.OK)
	var left []int
	puts, given := []int{99}, len(s.tables)-len(tables)
	for k, i := range s.at {
		if k*size >= to {
			given++
			continue
		}
		left = append(left, k)
		raw := bytes.Clone(was[k])
		if to < len(s.row) && k == to/size {
			clear(raw[to%size:])
			puts = append(puts, i)
		}
		s.holds(what, i, raw)
	}
	if len(blocks) != len(left) {
		s.t.Errorf("%s: the blocks are %v, want those at %v", what, blocks, left)
	}
	if wantsOf(left) != len(blocks)+len(tables) {
		s.t.Errorf("%s: blocks %v and tables %v", what, blocks, tables)
	}
	if given > 0 {
		puts = append(puts, 98)
	}
	for _, i := range tables {
		if !bytes.Equal(s.block(i), s.onDisk(i)) {
			puts = append(puts, i)
		}
	}
	s.written(what, puts...)
	s.free(what, s.g.Blocks-s.g.Data-len(blocks)-len(tables))
}

// wantsOf is how many blocks and tables a file has with blocks at just these indices.
func wantsOf(have []int) int {
	count := 0
	for i, k := range have {
		count += wants(have[:i], k*size, 1)
	}
	return count
}

// onDisk is a block's bytes as they last.
func (w *world) onDisk(i int) []byte { return w.d.Image()[i*size : (i+1)*size] }

// tryCut cuts, holds what came of it, lengthens the file again so that what was cut off is seen, and takes it back.
func (s *sparse) tryCut(to int) {
	s.t.Helper()
	what := fmt.Sprintf("P12.3: Cut(5, %d) of %d", to, len(s.row))
	was := s.raw()
	if to == len(s.row) {
		s.still(what, func() { s.cut(what, 5, to, api.OK) })
		return
	}
	s.cut(what, 5, to, api.OK)
	s.wantCut(what, was, to)
	low := max(to-1100, 0)
	head := s.piece(low, min(to, len(s.row))-low)
	if to > len(s.row) {
		head = (s.piece(low, to) + zeros(1100))[:to-low]
	}
	s.reads(what, 5, low, 5000, head)
	if again := min(to+2000, most); again > to {
		s.cut(what, 5, again, api.OK)
		s.reads(what+", longer again", 5, low, 5000, head+zeros(again-to))
		s.size(what+", longer again", 5, again)
	}
	want(s.t, what, s.x.Back(0), api.OK)
}

// P12.3: to less, to more and to the same, about each border of blocks, inside blocks and inside holes; what is put is just that, what is given back too, and what was cut off is zeros when the file grows again.
func TestCutToSizes(t *testing.T) {
	for _, length := range []int{0, 1, 300, 512, 513, 1500, 5120, 5121, 6000, 70656, 70657, 71000, 150000, most - 1, most} {
		s := thin(t, 300, length, indices...)
		tos := []int{0, 1, 2, 300, 511, 512, 513, 1300, 2 * size, 2*size + 5, length, most}
		for _, k := range append(indices, 2, 12, 140, 5000) {
			tos = append(tos, append(about(k*size), k*size+300)...)
		}
		slices.Sort(tos)
		for _, to := range slices.Compact(tos) {
			if to >= 0 && to <= most {
				s.tryCut(to)
			}
		}
	}
}

// P12.3: each size of a small file.
func TestCutToEachSize(t *testing.T) {
	for _, have := range [][]int{nil, {0}, {1}, {0, 1, 3}, {2}} {
		s := thin(t, 128, 1700, have...)
		for to := 0; to <= 2100; to += 3 {
			s.tryCut(to)
		}
		for _, to := range []int{511, 512, 513, 1023, 1024, 1025, 1535, 1536, 1537, 1699, 1700, 1701} {
			s.tryCut(to)
		}
	}
}

// P12.3: sizes that no file has.
func TestCutOfNoSize(t *testing.T) {
	for _, length := range []int{0, 700, most} {
		s := thin(t, 128, length, 0)
		s.still("P12.3", func() {
			for _, to := range []int{-1, -2, -512, -most, -1 << 32, math.MinInt + 1, math.MinInt} {
				s.cut("P12.3", 5, to, api.ErrInval)
			}
			for _, to := range []int{most + 1, most + 512, 1 << 32, 1<<32 + 700, 1 << 62, math.MaxInt - 511, math.MaxInt - 1, math.MaxInt} {
				s.cut("P12.3", 5, to, api.ErrBig)
			}
		})
	}
}

// P12.3: to the size that it has nothing is put, and nothing is asked.
func TestCutToTheSame(t *testing.T) {
	bad := api.Inode{Kind: 1, Links: 1, Size: 700, Direct: [10]int{5, 5, 5}, One: 6, Two: 7}
	w := on(t, 300, none, map[int]api.Inode{1: sized(aDir, 512), 2: aLink, 5: bad, 6: aFile}, nil)
	hold := func() {
		w.cut("P12.3", 1, 512, api.OK)
		w.cut("P12.3", 2, 9, api.OK)
		w.cut("P12.3", 5, 700, api.OK)
		w.cut("P12.3", 6, 0, api.OK)
	}
	w.still("P12.3", hold)
	w.keep(99)
	w.stuff(0)
	w.still("P12.3: no room", hold)
	w.d.Crash(nil)
	w.still("P12.3: down", hold)
}

// P12.3: to more puts the record alone; what stands behind the size, on a disk that is wrong, stands as it did.
func TestCutToMore(t *testing.T) {
	x := withNumber(withNumber(sized(aFile, 100), 0, 110), 1, 111)
	for _, to := range []int{101, 511, 512, 513, 1000, 5000} {
		w := on(t, 128, none, map[int]api.Inode{5: x}, nil)
		w.cut("P12.3", 5, to, api.OK)
		w.written("P12.3", 99)
		w.is("P12.3", 5, sized(x, to))
		w.reads("P12.3", 5, 0, 600, string(bytes.Repeat([]byte{7}, min(to, 600))))
	}
	// None of its numbers is looked at.
	bad := api.Inode{Kind: 1, Links: 1, Size: 700, Direct: [10]int{5, 5, 5}, One: 6, Two: 7}
	w := on(t, 128, none, map[int]api.Inode{5: bad}, nil)
	for _, to := range []int{701, 1024, 1025, most} {
		w.cut("P12.3", 5, to, api.OK)
		w.is("P12.3", 5, sized(bad, to))
	}
	w.written("P12.3", 99)
}

// P12.3: to less, what stands behind the new size in its block is zeros and put, whatever it was; in a hole nothing.
func TestCutInABlock(t *testing.T) {
	for _, stood := range [][]byte{filled(7), make([]byte, size), []byte(text(size, 1))} {
		for _, to := range []int{512 + 1, 512 + 100, 512 + 511} {
			x := withNumber(withNumber(sized(aFile, 1024), 0, 110), 1, 111)
			w := on(t, 128, none, map[int]api.Inode{5: x}, map[int][]byte{111: stood})
			w.cut("P12.3", 5, to, api.OK)
			w.written("P12.3", 99, 111)
			w.holds("P12.3", 111, append(bytes.Clone(stood[:to-512]), make([]byte, 1024-to)...))
			w.is("P12.3", 5, sized(x, to))
		}
	}
	x := withNumber(sized(aFile, 1024), 0, 110)
	w := on(t, 128, none, map[int]api.Inode{5: x}, nil)
	w.cut("P12.3: a hole", 5, 700, api.OK)
	w.written("P12.3: a hole", 99)
	w.cut("P12.3: at a border", 5, 512, api.OK)
	w.written("P12.3: at a border", 99)
	w.is("P12.3: at a border", 5, sized(x, 512))
	w.holds("P12.3: at a border", 110, filled(7))
}

// P12.3: of a cut at a border the index ahead of it isn't looked at; of one inside an index that index is; those further ahead aren't.
func TestCutLooksAtItsIndices(t *testing.T) {
	x := api.Inode{Kind: 1, Links: 1, Size: 10 * size, Direct: [10]int{5, 5, 5, 5, 100, 110, 111, 0, 112, 113}}
	w := on(t, 128, none, map[int]api.Inode{5: x}, nil)
	w.still("P12.3", func() {
		w.cut("P12.3: inside it", 5, 5*size-1, api.ErrPointer)
		w.cut("P12.3: inside it", 5, 4*size+1, api.ErrPointer)
		w.cut("P12.3: ahead of it", 5, 4*size, api.ErrPointer)
	})
	w.cut("P12.3: at a border", 5, 5*size, api.OK)
	x.Direct = [10]int{5, 5, 5, 5, 100}
	w.is("P12.3: at a border", 5, sized(x, 5*size))
	w.written("P12.3: at a border", 98, 99)

	w = on(t, 128, none, map[int]api.Inode{5: sized(withNumber(x, 5, 110), 10*size)}, nil)
	w.cut("P12.3: behind it", 5, 5*size+1, api.OK)
	w.is("P12.3: behind it", 5, sized(withNumber(x, 5, 110), 5*size+1))

	// The way to the index is gone with the record that is left: a table that was empty is gone, and so isn't read again.
	x = sized(withNumber(aFile, 10, 110), 20*size)
	w = on(t, 128, none, map[int]api.Inode{5: x}, map[int][]byte{110: make([]byte, size)})
	w.cut("P12.3: an empty table", 5, 12*size+7, api.OK)
	w.is("P12.3: an empty table", 5, sized(aFile, 12*size+7))
	w.written("P12.3: an empty table", 98, 99)
	w.free("P12.3: an empty table", 1)
}

// P12.3, W7: one block at an index that stays and at one that goes: it is given back, and then put with zeros behind the size.
func TestCutOfABlockTwice(t *testing.T) {
	x := withNumber(withNumber(sized(aFile, 1024), 0, 110), 1, 110)
	w := on(t, 128, none, map[int]api.Inode{5: x}, nil)
	w.cut("P12.3", 5, 100, api.OK)
	w.is("P12.3", 5, withNumber(sized(aFile, 100), 0, 110))
	w.written("P12.3", 98, 99, 110)
	w.free("P12.3", 1)
	w.holds("P12.3", 110, append(filled(7)[:100], make([]byte, 412)...))
	w = on(t, 128, none, map[int]api.Inode{5: x}, nil)
	w.still("P12.3", func() { w.cut("P12.3: given back twice", 5, 0, api.ErrFree) })

	// A table that is the index's own block: cut as a table first, then as bytes.
	x = withNumber(withNumber(sized(aFile, 20*size), 9, 110), 10, 110)
	w = on(t, 128, none, map[int]api.Inode{5: x}, map[int][]byte{110: table(map[int]int{0: 120, 3: 121})})
	w.cut("P12.3: a table", 5, 11*size, api.OK)
	w.holds("P12.3: a table", 110, table(map[int]int{0: 120}))
	w.cut("P12.3: a table", 5, 10*size-509, api.OK)
	w.is("P12.3: a table", 5, withNumber(sized(aFile, 10*size-509), 9, 110))
	w.holds("P12.3: a table", 110, table(map[int]int{0: 120}))
	w.free("P12.3: a table", 3)
}

// P12.3: directories and symbolic links, as far as their sizes may be.
func TestCutOfKinds(t *testing.T) {
	x := withNumber(withNumber(sized(aDir, 1024), 0, 110), 1, 111)
	w := on(t, 128, none, map[int]api.Inode{1: x}, nil)
	w.still("P12.3: a directory", func() {
		for _, to := range []int{1, 100, 511, 513, 1023, 1025, 1535, most - 1} {
			w.cut("P12.3: a directory", 1, to, api.ErrRecord)
		}
	})
	w.cut("P12.3: a directory", 1, 2048, api.OK)
	w.is("P12.3: a directory", 1, sized(x, 2048))
	w.cut("P12.3: a directory", 1, 512, api.OK)
	w.is("P12.3: a directory", 1, withNumber(sized(aDir, 512), 0, 110))
	w.cut("P12.3: a directory", 1, 0, api.OK)
	w.is("P12.3: a directory", 1, aDir)
	w.free("P12.3: a directory", 2)

	x = withNumber(withNumber(sized(aLink, 1000), 0, 110), 1, 111)
	w = on(t, 128, none, map[int]api.Inode{2: x}, nil)
	w.still("P12.3: a link", func() {
		for _, to := range []int{0, 1025, 1026, 2048, most} {
			w.cut("P12.3: a link", 2, to, api.ErrRecord)
		}
	})
	w.cut("P12.3: a link", 2, 1024, api.OK)
	w.is("P12.3: a link", 2, sized(x, 1024))
	w.cut("P12.3: a link", 2, 1, api.OK)
	w.is("P12.3: a link", 2, withNumber(sized(aLink, 1), 0, 110))
	w.reads("P12.3: a link", 2, 0, 10, "\x07")
	w.holds("P12.3: a link", 110, append([]byte{7}, make([]byte, 511)...))
	w.free("P12.3: a link", 1)
}

// P12.3: ErrTooBig just if more is to be put than the transaction has room for.
func TestCutWithoutRoom(t *testing.T) {
	have := []int{0, 1, 9, 10, 11, 137, 138, 139, 300}
	for _, to := range []int{0, 1, 512, 700, 1024, 9*size + 1, 10 * size, 10*size + 1, 11 * size, 11*size + 1, 138 * size, 138*size + 1, 139 * size, 300 * size, 300*size + 50, 301 * size, most} {
		for _, known := range []bool{false, true} {
			length := 300*size + 100
			first := thin(t, 300, length, have...)
			first.cut("P12.3", 5, to, api.OK)
			puts := first.x.Written()
			for room := range len(puts) + 2 {
				s := thin(t, 300, length, have...)
				need := len(puts)
				if known {
					s.keep(99)
					need--
				}
				s.stuff(room)
				what := fmt.Sprintf("P12.3: Cut(5, %d), the record put %v, room for %d", to, known, room)
				if room < need {
					s.still(what, func() { s.cut(what, 5, to, api.ErrTooBig) })
					s.whole(what)
					continue
				}
				after := append(s.x.Written(), puts...)
				s.cut(what, 5, to, api.OK)
				s.written(what, after...)
			}
		}
	}
}

// P12.3: with the power out a Cut does what it does, if all that it reads is put.
func TestCutWithThePowerOut(t *testing.T) {
	have := []int{0, 1, 10, 138}
	for _, to := range []int{0, 100, 512, 513, 600, 10 * size, 10*size + 1, 138 * size, 138*size + 5, 140 * size} {
		s := thin(t, 300, 139*size, have...)
		reads := append([]int{98, 99}, s.tables...)
		edge, is := s.at[to/size]
		if is {
			reads = append(reads, edge)
		}
		s.keep(reads...)
		s.d.Crash(nil)
		s.cut("P12.3: down", 5, to, api.OK)
		s.size("P12.3: down", 5, to)
		if !is || to%size == 0 {
			continue
		}
		s = thin(t, 300, 139*size, have...)
		s.keep(append([]int{98, 99}, s.tables...)...)
		s.d.Crash(nil)
		s.still("P12.3: down", func() { s.cut("P12.3: down, the block at the end", 5, to, api.ErrDown) })
	}
	s := thin(t, 300, 1024, 0, 1)
	s.keep(99, s.at[0])
	s.d.Crash(nil)
	s.still("P12.3: down", func() { s.cut("P12.3: down, the bitmap", 5, 100, api.ErrDown) })
	s.cut("P12.3: down, nothing to give back", 5, 1025, api.OK)
}

// P12.5: Cut to 0 gives all blocks and tables back, and leaves no number.
func TestCutToNothing(t *testing.T) {
	for _, have := range [][]int{{0}, {9}, {10}, {137}, {138}, {265, 266}, {last}, indices} {
		s := thin(t, 300, lengthOf(have), have...)
		s.cut("P12.5", 5, 0, api.OK)
		s.is("P12.5", 5, aFile)
		s.blocks("P12.5", 5, 0)
		s.free("P12.5", s.g.Blocks-s.g.Data)
		s.written("P12.5", 98, 99)
		s.cut("P12.5", 5, lengthOf(have), api.OK)
		s.row = make([]byte, lengthOf(have))
		s.whole("P12.5: longer again")
	}
}

// P12.4: how many blocks and tables there are, of direct numbers, of One and of Two; nothing is put.
func TestBlocks(t *testing.T) {
	for _, have := range [][]int{nil, {0}, {9}, {0, 1, 2, 3, 4, 5, 6, 7, 8, 9}, {10}, {9, 10}, {10, 137}, {138}, {137, 138}, {138, 265}, {265, 266}, {138, 266, last}, {last}, indices} {
		s := thin(t, 300, most, have...)
		s.still("P12.4", func() { s.blocks(fmt.Sprint("P12.4: ", have), 5, wantsOf(have)) })
		s.keep(append([]int{99}, s.tables...)...)
		s.d.Crash(nil)
		s.still("P12.4", func() { s.blocks(fmt.Sprint("P12.4: down: ", have), 5, wantsOf(have)) })
		for i := range s.tables {
			s := thin(t, 300, most, have...)
			s.keep(99)
			s.keep(slices.Delete(slices.Clone(s.tables), i, i+1)...)
			s.d.Crash(nil)
			s.still("P12.4", func() { s.noBlocks(fmt.Sprint("P12.4: down: ", have), 5, api.ErrDown) })
		}
	}
}

// P12.4: what the record's numbers tell, whatever its kind and size: a table that is empty, a block that stands twice, blocks behind the size.
func TestBlocksOfAnyRecord(t *testing.T) {
	tables := map[int][]byte{110: make([]byte, size), 111: table(map[int]int{0: 112, 5: 112}), 112: table(map[int]int{3: 120, 4: 120})}
	w := on(t, 128, none, map[int]api.Inode{
		1: withNumber(aDir, 10, 110),
		2: withNumber(withNumber(aLink, 0, 120), 9, 120),
		5: withNumber(aFile, 11, 111),
		6: withNumber(withNumber(aFile, 10, 112), 11, 110),
	}, tables)
	w.still("P12.4", func() {
		w.blocks("P12.4: an empty table", 1, 1)
		w.blocks("P12.4: a block twice", 2, 2)
		w.blocks("P12.4: a table twice", 5, 3+4)
		w.blocks("P12.4: both", 6, 2+2)
	})
	for at := range 12 {
		for _, n := range []int{1, 98, 100, 128, 1<<32 - 1} {
			w := on(t, 128, none, map[int]api.Inode{5: withNumber(aFile, at, n)}, nil)
			w.still("P12.4", func() { w.noBlocks("P12.4: no data block's", 5, api.ErrPointer) })
		}
	}
}
