package check_test

import (
	"testing"

	"bole/api"
	"bole/check"
)

// drawn is an image of 128 blocks behind mkfs with something drawn into it.
func drawn(t *testing.T, draw func(s *sketch)) *sketch {
	t.Helper()
	s := fresh(t, 128)
	draw(s)
	return s
}

// part is an image of some of its bytes.
func (s *sketch) part(n int) *sketch { return &sketch{s.t, s.g, s.b[:n]} }

// P19.1: the chapter's example 1.
func TestExampleSuper(t *testing.T) {
	z := fresh(t, 128)
	z.finds("Z")
	z.part(0).finds("no bytes", "super")
	z.part(128*size-1).finds("Z without its last byte", "super")
	z.part(127*size).finds("Z without its last block", "super")
	(&sketch{t, z.g, make([]byte, 127*size)}).finds("127 blocks of zeros", "super")
	drawn(t, func(s *sketch) { s.b[8] = 129 }).finds("byte 8 made 129", "super")
	drawn(t, func(s *sketch) { s.b[512] = 1 }).finds("byte 512 made 1", "head")
}

// P19.1: the chapter's example 2.
func TestExampleBits(t *testing.T) {
	drawn(t, func(s *sketch) { s.turn(98, 0, 0xFE) }).finds("bit 0 cleared", "meta 0")
	drawn(t, func(s *sketch) { s.turn(98, 16, 0xFE) }).finds("bit 128 cleared", "meta 128")
	drawn(t, func(s *sketch) { s.turn(98, 13, 0x40) }).finds("bit 110 set", "taken 110")
	drawn(t, func(s *sketch) { s.turn(98, 0, 0) }).finds("DOC.md's example 10", "meta 0", "meta 1", "meta 2", "meta 3", "meta 4", "meta 5", "meta 6", "meta 7")
}

// P19.1: the chapter's example 3.
func TestExampleRecords(t *testing.T) {
	drawn(t, func(s *sketch) { s.turn(99, 0, 1) }).finds("inode 0's record", "record 0")
	drawn(t, func(s *sketch) { s.turn(99, 64, 9) }).finds("the root's kind 9", "record 1", "lost 1")
	drawn(t, func(s *sketch) { s.turn(99, 64, 1) }).finds("the root a file", "lost 1", "links 1")
}

// P19.1: the chapter's example 4.
func TestExampleFiles(t *testing.T) {
	full := rep("x", size)
	drawn(t, func(s *sketch) { s.record(2, plainFile(0, 0)) }).finds("a file with Links 0", "orphan 2")
	drawn(t, func(s *sketch) { s.record(2, plainFile(1, 0)) }).finds("a file with Links 1", "lost 2", "links 2")
	drawn(t, func(s *sketch) {
		s.record(2, plainFile(0, 5, 101))
		s.lay(101, full)
		s.free(101)
	}).finds("a full block of a file of 5 bytes, its bit clear", "tail 2 101", "free 101", "orphan 2")
	drawn(t, func(s *sketch) { s.record(2, plainFile(0, 5, 100)) }).finds("Direct[0] 100", "pointer 2 100", "orphan 2")
	drawn(t, func(s *sketch) {
		s.record(2, plainFile(0, 1024, 101, 101))
		s.take(101)
	}).finds("Direct[0] and Direct[1] 101", "twice 2 101", "orphan 2")
}

// P19.1: the chapter's example 5.
func TestExampleNames(t *testing.T) {
	drawn(t, func(s *sketch) {
		s.dir(1, 2, 101, has("a", 2), has("a", 9))
		s.record(2, plainFile(1, 0))
	}).finds("a name twice", "name 1 a", "none 1 a")
	drawn(t, func(s *sketch) {
		s.dir(1, 2, 101, has("a", 2), has("b", 2))
		s.record(2, plainFile(2, 0))
	}).finds("two names of a file")
	drawn(t, func(s *sketch) {
		s.dir(1, 2, 101, has("a", 2), has("r", 1))
		s.record(2, plainFile(1, 0))
	}).finds("a name of the root", "parent 1 r", "links 1")
	drawn(t, func(s *sketch) { s.record(1, folder(2, 512)) }).finds("the root without its block", "cell 1 0")
}

// P19.3: the chapter's example 6.
func TestExamplePrint(t *testing.T) {
	l := []api.Finding{{Kind: api.FindTail, Inode: 2, Block: 101}, {Kind: api.FindName, Inode: 1, Name: "a b"}, {Kind: 99, Inode: 1, Block: 2, Name: "x"}}
	if s := check.Print(l); s != "tail 2 101\nname 1 a\\x20b\n?\n" {
		t.Errorf("P19.3: %q", s)
	}
}
