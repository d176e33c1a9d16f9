package file_test

import (
	"fmt"
	"math"
	"slices"
	"testing"

	"bole/api"
)

// about are a number and those beside it.
func about(n int) []int { return []int{n - 1, n, n + 1} }

// counts are lengths of a row of bytes about a block's, and about several blocks'.
var counts = []int{0, 1, 2, 100, 511, 512, 513, 1023, 1024, 1025, 1300, 2048, 5000}

// P12.1: pieces from about each border of blocks on, over blocks and holes, within a block and over several; nothing is put.
func TestReadOfPieces(t *testing.T) {
	for _, length := range []int{most, most - 1, most - 300, most - 511} {
		s := thin(t, 300, length, indices...)
		s.still("P12.1", func() {
			for _, k := range append(indices, 2, 4, 12, 140, 5000) {
				for _, off := range append(about(k*size), k*size+300) {
					for _, count := range counts {
						if off >= 0 {
							s.reads("P12.1", 5, off, count, s.piece(off, count))
						}
					}
				}
			}
		})
	}
}

// P12.1: every off and every size about the borders of a small file.
func TestReadOfEachByte(t *testing.T) {
	s := thin(t, 128, 1700, 0, 1, 3)
	for off := 0; off <= 1702; off += 3 {
		for count := 0; count <= 1702; count += 13 {
			s.reads("P12.1", 5, off, count, s.piece(off, count))
		}
	}
}

// P12.1: up to the end, at it and behind it, also where off and size together are more than an int holds.
func TestReadAtTheEnd(t *testing.T) {
	for _, length := range []int{0, 1, 2, 511, 512, 513, 1023, 1024, 1025, 5119, 5120, 5121, 5632, 70655, 70656, 70657, 71168, most - 1, most} {
		s := thin(t, 300, length, indices...)
		s.still("P12.1", func() {
			for _, off := range []int{0, 1, 511, 512, 513, length - 513, length - 512, length - 511, length - 2, length - 1} {
				for _, more := range []int{0, 1, 511, 512, 513, most, math.MaxInt - off - length, math.MaxInt - length} {
					// Of the longest ones not the whole: TestReadOfTheLongest asks for that.
					if off >= 0 && off < length && length-off < 1<<17 {
						s.reads("P12.1: to the end", 5, off, length-off+more, string(s.row[off:]))
						s.reads("P12.1: ahead of the end", 5, off, length-off-1, string(s.row[off:length-1]))
					}
				}
			}
			for _, off := range []int{length, length + 1, length + 511, length + 512, most, most + 1, 1 << 32, 1 << 62, math.MaxInt - 1, math.MaxInt} {
				for _, count := range []int{0, 1, 512, most, 1 << 62, math.MaxInt - off, math.MaxInt - 1, math.MaxInt} {
					if off >= length {
						s.reads("P12.1: behind the end", 5, off, count, "")
					}
				}
			}
		})
	}
}

// P12.1: bytes of a block behind the size aren't told, whatever they are.
func TestReadStopsAtTheSize(t *testing.T) {
	for _, length := range []int{1, 10, 511, 512} {
		x := withNumber(withNumber(sized(aFile, length), 0, 110), 1, 111)
		w := on(t, 128, none, map[int]api.Inode{5: x}, nil)
		w.still("P12.1", func() {
			w.reads("P12.1", 5, 0, 2000, string(filled(7)[:length]))
			w.reads("P12.1", 5, length-1, 2, "\x07")
			w.reads("P12.1", 5, length, 1, "")
		})
	}
}

// P12.1, the word 'An inode's bytes': all of the longest file, with no block and with some.
func TestReadOfTheLongest(t *testing.T) {
	s := thin(t, 300, most)
	s.still("P12.1", func() { s.whole("P12.1: a hole") })
	s = thin(t, 300, most, indices...)
	s.still("P12.1", func() { s.whole("P12.1: blocks and holes") })
}

// P12.1: of inodes of every kind alike.
func TestReadOfKinds(t *testing.T) {
	for _, x := range []api.Inode{aFile, {Kind: 1, Links: 0}, aDir, aLink} {
		x = withNumber(sized(x, 1024), 1, 127)
		w := on(t, 128, none, map[int]api.Inode{1: x, 15: x}, map[int][]byte{127: []byte(text(size, 3))})
		for _, n := range []int{1, 15} {
			w.still("P12.1", func() {
				w.reads("P12.1", n, 0, 5000, zeros(size)+text(size, 3))
				w.reads("P12.1", n, 500, 20, zeros(12)+text(size, 3)[:8])
			})
		}
	}
}

// wanted is which blocks a Read of these indices reads.
func (s *sparse) wanted(x api.Inode, ks ...int) []int {
	nums := []int{99}
	for _, k := range ks {
		nums = append(nums, s.at[k])
		if k >= 10 && k < 138 {
			nums = append(nums, x.One)
		}
		if k >= 138 {
			nums = append(nums, x.Two, s.inTwo(x, k))
		}
	}
	slices.Sort(nums)
	return slices.Compact(nums)
}

// inTwo is the table that tells the block of an index from 138 on.
func (s *sparse) inTwo(x api.Inode, k int) int {
	b := s.block(x.Two)
	at := (k - 138) / 128 * 4
	return int(b[at]) | int(b[at+1])<<8
}

// P12.1: just the record, the tables and the blocks of the bytes that are wanted are read: with the power out those must be put, and no others.
func TestReadReadsWhatIsWanted(t *testing.T) {
	for _, c := range []struct {
		off, count int
		ks         []int
	}{
		{0, 1, []int{0}}, {511, 1, []int{0}}, {0, 512, []int{0}}, {0, 513, []int{0, 1}}, {511, 2, []int{0, 1}}, {512, 512, []int{1}},
		{9 * size, 512, []int{9}}, {9*size + 511, 2, []int{9, 10}}, {10 * size, 1, []int{10}}, {10*size - 1, 514, []int{9, 10, 11}},
		{138*size - 1, 1, []int{137}}, {137 * size, 513, []int{137, 138}}, {138 * size, 1, []int{138}}, {139 * size, 512, []int{139}},
		{265*size + 4, 508, []int{265}}, {265*size + 4, 509, []int{265, 266}}, {266 * size, 3, []int{266}},
		{16394*size - 1, 2, []int{16393, 16394}}, {most - 1, 1000, []int{last}}, {most - 513, 1000, []int{16520, last}},
		{0, 0, nil}, {700, 0, nil}, {most, 10, nil}, {math.MaxInt, math.MaxInt, nil},
	} {
		what := fmt.Sprintf("P12.1: Read(5, %d, %d)", c.off, c.count)
		s := thin(t, 300, most, indices...)
		nums := s.wanted(s.record(5), c.ks...)
		s.keep(nums...)
		s.d.Crash(nil)
		s.still(what, func() { s.reads(what, 5, c.off, c.count, s.piece(c.off, c.count)) })
		for _, missing := range nums {
			s := thin(t, 300, most, indices...)
			for _, i := range nums {
				if i != missing {
					s.keep(i)
				}
			}
			s.d.Crash(nil)
			s.still(what, func() { s.noRead(what, 5, c.off, c.count, api.ErrDown) })
		}
	}
}

// P12.1: numbers of indices of which no byte is wanted aren't looked at: those ahead, those behind, and those that only the last block's rest or bytes behind the end would be of.
func TestReadLooksAtWhatIsWanted(t *testing.T) {
	bad := api.Inode{Kind: 1, Links: 1, Size: most, One: 5, Two: 1 << 31}
	for i := range bad.Direct {
		bad.Direct[i] = 100
	}
	good := withNumber(withNumber(bad, 3, 110), 4, 111)
	w := on(t, 128, none, map[int]api.Inode{4: sized(good, 5*size), 5: good, 6: bad}, nil)
	sevens := string(filled(7)) + string(filled(7))
	w.still("P12.1", func() {
		for _, off := range []int{0, 3 * size, most - 1, most, math.MaxInt} {
			w.reads("P12.1: no byte is wanted", 6, off, 0, "")
		}
		for _, off := range []int{most, most + 1, math.MaxInt} {
			w.reads("P12.1: behind the end", 6, off, 100, "")
		}
		for _, off := range []int{0, 511, 9*size + 511, 10 * size, 137 * size, 138 * size, most - 1} {
			w.noRead("P12.1", 6, off, 1, api.ErrPointer)
		}
		w.reads("P12.1", 5, 3*size, 2*size, sevens)
		w.reads("P12.1", 5, 5*size-1, 1, "\x07")
		w.noRead("P12.1: one ahead", 5, 3*size-1, 2, api.ErrPointer)
		w.noRead("P12.1: one behind", 5, 5*size-1, 2, api.ErrPointer)
		w.reads("P12.1: up to the end", 4, 3*size, most, sevens)
	})
}

// P12.1: what was put is read as it was put, beside the calls too: nothing is kept between them.
func TestReadThroughWhatIsPut(t *testing.T) {
	s := thin(t, 300, 12*size, 0, 1, 10)
	x := s.record(5)
	s.whole("P12.1")
	s.lay(s.at[1], filled('b'))
	copy(s.row[size:], filled('b'))
	s.whole("P12.1: a block")
	s.lay(x.One, table(map[int]int{1: s.at[0]}))
	copy(s.row[10*size:], make([]byte, size))
	copy(s.row[11*size:], s.row[:size])
	s.whole("P12.1: a table")
	s.lay(99, make([]byte, size))
	s.noRead("P12.1: no record", 5, 0, 1, api.ErrInode)
	s.x.Abort()
	s.noRead("P12.1: over", 5, 0, 1, api.ErrOver)
}
