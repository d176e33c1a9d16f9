package check_test

import (
	"bytes"
	"encoding/binary"
	"fmt"
	"hash/crc32"
	"slices"
	"testing"

	"bole/api"
)

// ofBytes is an image of any bytes.
func ofBytes(t *testing.T, b []byte) *sketch { return &sketch{t: t, b: b} }

// P19.1: images of every length that is named, each with the super block of that length, or without.
func TestLengths(t *testing.T) {
	for _, n := range []int{128, 129, 4096, 4097, 16383, 16384} {
		fresh(t, n).finds(fmt.Sprint("behind mkfs of ", n))
	}
	for _, n := range []int{1, 2, 97, 98, 99, 127, 16385, 16386, 20000} {
		b := make([]byte, n*size)
		ofBytes(t, b).finds(fmt.Sprint(n, " blocks of zeros"), "super")
		copy(b, superOf(n))
		ofBytes(t, b).finds(fmt.Sprint(n, " blocks with their super block"), "super")
	}
	z := fresh(t, 129)
	for _, n := range []int{0, 1, 7, 8, 15, 16, 511, 512, 513, 1023, 1024, 98 * size, 127*size + 511, 128 * size, 128*size + 1, 129*size - 1} {
		ofBytes(t, z.b[:n]).finds(fmt.Sprint(n, " bytes of 129 blocks"), "super")
	}
	for _, more := range []int{1, 2, 511, 512, 513, 1024, 128 * size} {
		ofBytes(t, slices.Concat(z.b, make([]byte, more))).finds(fmt.Sprint(more, " bytes more"), "super")
	}
	ofBytes(t, nil).finds("nil", "super")
	ofBytes(t, []byte{}).finds("empty", "super")
}

// P19.1: a super block of another number of blocks, or none at all.
func TestSupers(t *testing.T) {
	for _, n := range []int{128, 129, 256, 4096, 4097} {
		for _, other := range []int{0, 1, 64, 127, 128, 129, 130, 256, 4095, 4096, 4097, 16384, 16385, 1 << 31, 1<<32 - 1} {
			s := fresh(t, n)
			copy(s.b, superOf(other))
			if other == n {
				s.finds("its own super block")
				continue
			}
			s.finds(fmt.Sprintf("%d blocks, the super block of %d", n, other), "super")
		}
	}
	for at := range size {
		for _, by := range []byte{1, 0x80, 0xFF} {
			s := fresh(t, 128)
			s.b[at] ^= by
			s.finds(fmt.Sprintf("byte %d of the super block turned", at), "super")
		}
	}
	s := fresh(t, 128)
	clear(s.b[:size])
	s.finds("a super block of zeros", "super")
}

// log writes a log: a header with these numbers, and their blocks.
func (s *sketch) log(nums []int, blocks [][]byte) {
	head := append([]byte("BOLELOG1"), byte(len(nums)), byte(len(nums)>>8), 0, 0, 0, 0, 0, 0)
	for _, num := range nums {
		head = binary.LittleEndian.AppendUint32(head, uint32(num))
	}
	head = append(head, make([]byte, max(0, size-len(head)))...)[:size]
	for i, b := range blocks {
		s.turn(2+i, 0, b...)
	}
	s.sumUp(head, len(nums))
}

// sumUp lays a header with the sum that it should have.
func (s *sketch) sumUp(head []byte, count int) {
	clear(head[12:16])
	sum := crc32.ChecksumIEEE(slices.Concat(head, s.b[2*size:(2+count)*size]))
	binary.LittleEndian.PutUint32(head[12:], sum)
	s.turn(1, 0, head...)
}

func (s *sketch) block(i int) []byte { return bytes.Clone(s.b[i*size : (i+1)*size]) }

// P19.1: logs that are bad: this is told alone, whatever else is wrong.
func TestBadLogs(t *testing.T) {
	for at := range size {
		s := fresh(t, 128)
		s.turn(1, at, 1)
		s.finds(fmt.Sprintf("byte %d of an empty header", at), "head")
	}
	zero := make([]byte, size)
	for _, nums := range [][]int{{97}, {0}, {1}, {2}, {128}, {129}, {1<<32 - 1}, {99, 98}, {110, 110}, {110, 128}, {97, 110}, {110, 111, 0}} {
		s := fresh(t, 128)
		s.log(nums, slices.Repeat([][]byte{zero}, len(nums)))
		s.finds(fmt.Sprintf("the log's numbers %d", nums), "head")
	}
	most := func(n, count int) *sketch {
		s := fresh(t, n)
		var nums []int
		for i := range count {
			nums = append(nums, n-count+i)
		}
		s.log(nums, slices.Repeat([][]byte{zero}, min(count, 96)))
		return s
	}
	most(256, 1).finds("a log of one block")
	most(256, 96).finds("a log of 96 blocks")
	most(256, 97).finds("a log of 97 blocks", "head")
	most(256, 0).finds("a log of no block", "head")
	for at := range size {
		s := most(256, 3)
		s.b[size+at] ^= 1
		s.finds(fmt.Sprintf("byte %d of a header turned", at), "head")
	}
	for _, at := range []int{0, 1, 511, 512, 1000, 1535} {
		s := most(256, 3)
		s.b[2*size+at] ^= 1
		s.finds(fmt.Sprintf("byte %d of the log's data turned", at), "head")
	}
	s := most(256, 3)
	s.b[5*size] ^= 1
	s.finds("a byte behind the log's data turned")
}

// P19.1: what is told first is told alone.
func TestAlone(t *testing.T) {
	s := fresh(t, 128)
	s.free(0, 5, 128)
	s.turn(99, 0, 9)
	s.turn(99, 64, 9)
	s.record(2, plainFile(1, 0, 7))
	s.finds("much that is wrong", "meta 0", "meta 5", "meta 128", "record 0", "record 1", "pointer 2 7", "lost 1", "lost 2", "links 2")
	s.turn(1, 0, 1)
	s.finds("and a bad log", "head")
	s.turn(0, 511, 1)
	s.finds("and no super block", "super")
	s.turn(1, 0, 0)
	s.finds("no super block", "super")
}

// P19.1, P19.4: a log that is good: what is told is told of the blocks behind it.
func TestGoodLogs(t *testing.T) {
	wrong := fresh(t, 128)
	wrong.dir(1, 2, 101, has("a", 2), has("b", 9))
	wrong.record(2, linkOf(1, 3, 102))
	wrong.lay(102, "x\x00y")
	wrong.free(5, 102)
	lines := []string{"meta 5", "free 102", "none 1 b", "text 2"}
	wrong.finds("a wrong image", lines...)
	right := fresh(t, 128)
	right.dir(1, 2, 101, has("a", 2))
	right.record(2, linkOf(1, 3, 102))
	right.lay(102, "xxy")
	right.finds("a right image")
	nums := []int{98, 99, 101, 102}
	through := func(from, to *sketch) *sketch {
		s := from.copy()
		var blocks [][]byte
		for _, num := range nums {
			blocks = append(blocks, to.block(num))
		}
		s.log(nums, blocks)
		return s
	}
	through(wrong, right).finds("what is wrong, mended by the log")
	through(right, wrong).finds("what is right, made wrong by the log", lines...)
	through(right, right).finds("what is right already")
	alone := map[int][]string{98: {"meta 5", "free 102"}, 99: nil, 101: {"none 1 b"}, 102: {"text 2"}}
	for num, lines := range alone {
		s := right.copy()
		s.log([]int{num}, [][]byte{wrong.block(num)})
		s.finds(fmt.Sprintf("block %d by the log", num), lines...)
	}
	s := right.copy()
	s.log([]int{127}, [][]byte{right.block(98)})
	s.finds("the last block by the log")
	s = right.copy()
	free := right.copy()
	free.record(1, api.Inode{})
	s.log([]int{99}, [][]byte{free.block(99)})
	s.finds("the root by the log", "taken 101", "lost 1", "lost 2", "links 2")
}

// P19.1: the log's data mean nothing where its header is empty.
func TestEmptyLog(t *testing.T) {
	s := fresh(t, 128)
	block := make([]byte, size)
	s.log([]int{98}, [][]byte{block})
	clear(s.b[size : 2*size])
	s.finds("a header that was emptied")
	for i := 2 * size; i < 98*size; i++ {
		s.b[i] = byte(i * 31)
	}
	s.finds("any bytes in the log's data")
}
