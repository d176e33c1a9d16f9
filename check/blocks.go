package check

import (
	"bole/api"
	"bole/bits"
	"bole/rec"
)

const numberLen = api.BlockSize / api.PerTable

// The first index that each of a record's tables leads to.
const (
	firstOfOne = api.Direct
	firstOfTwo = api.Direct + api.PerTable
)

// place is where a block stands in an inode.
type place struct{ inode, index int }

func (s *search) bitmap() []byte {
	blocks := s.geo.Inodes - s.geo.Bitmap
	return cut(s.blocks, s.geo.Bitmap*api.BlockSize, blocks*api.BlockSize)
}

// isData tells whether a number is a data block's.
func (s *search) isData(num int) bool { return s.geo.Data <= num && num < s.geo.Blocks }

// askOtherBits asks the bits of all that are no data blocks: ahead of those, and behind the disk's end.
func (s *search) askOtherBits() {
	for first, count := range bits.Runs(s.bitmap()) {
		for k := first; k < first+count; k++ {
			if !s.isData(k) {
				s.tell(api.Finding{Kind: api.FindMeta, Block: k})
			}
		}
	}
}

func (s *search) askDataBits() {
	bitmap := s.bitmap()
	for k := s.geo.Data; k < s.geo.Blocks; k++ {
		taken, _ := bits.Get(bitmap, k)
		had := s.owners[k] != 0
		switch {
		case had && !taken:
			s.tell(api.Finding{Kind: api.FindFree, Block: k})
		case taken && !had:
			s.tell(api.Finding{Kind: api.FindTaken, Block: k})
		}
	}
}

// learnOwners goes through the numbers of each inode.
func (s *search) learnOwners() {
	for n, x := range s.records {
		s.meet(n, 0, 0, x.Direct[:]...)
		s.meet(n, firstOfOne, 1, x.One)
		s.meet(n, firstOfTwo, 2, x.Two)
	}
}

// span is how many indices a number leads to that has so many tables below it.
func span(tables int) int {
	n := 1
	for range tables {
		n *= api.PerTable
	}
	return n
}

// meet goes through numbers of an inode that lead, with so many tables below each, to the indices from first on.
func (s *search) meet(n, first, tables int, nums ...int) {
numbers:
	for i, num := range nums {
		switch {
		case num == 0:
			continue numbers
		case !s.isData(num):
			s.tell(api.Finding{Kind: api.FindPointer, Inode: n, Block: num})
			continue numbers
		case s.owners[num] != 0:
			s.tell(api.Finding{Kind: api.FindTwice, Inode: n, Block: num})
			continue numbers
		}
		s.owners[num] = n
		index := first + i*span(tables)
		if tables == 0 {
			s.lay(n, index, num)
			continue numbers
		}
		if isZero(s.block(num)) {
			s.tell(api.Finding{Kind: api.FindTail, Inode: n, Block: num})
		}
		s.meet(n, index, tables-1, s.table(num)...)
	}
}

// lay lets an inode have a block at an index.
func (s *search) lay(n, index, num int) {
	s.placed[place{n, index}] = num
	if s.isTail(s.records[n].Size, index, num) {
		s.tell(api.Finding{Kind: api.FindTail, Inode: n, Block: num})
	}
}

// isTail tells whether a block at an index lies behind the size, or has a byte there that isn't zero.
func (s *search) isTail(size, index, num int) bool {
	within := size - index*api.BlockSize
	return within <= 0 || within < api.BlockSize && !isZero(s.block(num)[within:])
}

func isZero(b []byte) bool {
	zero, _ := rec.Zero(b, 0, len(b))
	return zero
}

func (s *search) table(num int) []int {
	b := s.block(num)
	nums := make([]int, api.PerTable)
	for i := range nums {
		v, _ := rec.Get(b, i*numberLen, numberLen)
		nums[i] = int(v)
	}
	return nums
}
