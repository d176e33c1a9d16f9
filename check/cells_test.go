package check_test

import (
	"fmt"
	"testing"

	"bole/api"
)

// long is a root of so many blocks from 110 on, with a file in the first cell of each: inode 2 and on; 12 of them reach into a table.
func long(t *testing.T, blocks int) *sketch {
	s := fresh(t, 256)
	x := folder(2, 512*blocks)
	if blocks > 10 {
		x.One = 140
		s.table(140, nil)
	}
	for k := range blocks {
		if k < 10 {
			x.Direct[k] = 110 + k
		} else {
			s.word(140, 4*(k-10), 110+k)
		}
		s.cells(110+k, has(fmt.Sprint("f", k), 2+k))
		s.record(2+k, plainFile(1, 0))
	}
	s.record(1, x)
	return s
}

// drop lets a root of long have no block at an index.
func (s *sketch) drop(index int) {
	if index < 10 {
		s.word(s.g.Inodes, 64+8+4*index, 0)
	} else {
		s.word(140, 4*(index-10), 0)
	}
	s.free(110 + index)
}

// lostFrom is what is told of the files of long from one on, which have lost their name.
func lostFrom(k, blocks int) []string {
	var l []string
	for ; k < blocks; k++ {
		l = append(l, fmt.Sprint("lost ", 2+k), fmt.Sprint("links ", 2+k))
	}
	return l
}

// P19.1: a directory without a block at an index: what lies behind isn't looked at.
func TestDirHoles(t *testing.T) {
	for _, blocks := range []int{1, 2, 3, 10, 11, 12} {
		long(t, blocks).finds(fmt.Sprint("a directory of ", blocks, " blocks"))
		for k := range blocks {
			if blocks == 11 && k == 10 {
				continue // its table would be one of zeros
			}
			s := long(t, blocks)
			s.drop(k)
			s.finds(fmt.Sprint(blocks, " blocks, none at ", k), append([]string{"cell 1 0"}, lostFrom(k, blocks)...)...)
			for j := range k {
				s := long(t, blocks)
				s.drop(k)
				s.drop(j)
				if blocks == 12 && j == 10 {
					continue
				}
				s.finds(fmt.Sprint(blocks, " blocks, none at ", j, " and ", k), append([]string{"cell 1 0"}, lostFrom(j, blocks)...)...)
			}
		}
		s := long(t, blocks)
		s.word(s.g.Inodes, 64+4, 512*blocks+512)
		s.finds(fmt.Sprint(blocks, " blocks, of a Size of one more"), "cell 1 0")
		s.word(s.g.Inodes, 64+4, api.MaxFile)
		s.finds(fmt.Sprint(blocks, " blocks, of the greatest Size"), "cell 1 0")
		s.word(s.g.Inodes, 64+4, 512*blocks-512)
		s.finds(fmt.Sprint(blocks, " blocks, of a Size of one less"), append([]string{fmt.Sprint("tail 1 ", 110+blocks-1)}, lostFrom(blocks-1, blocks)...)...)
	}
	s := long(t, 12)
	s.word(s.g.Inodes, 64+48, 0)
	s.free(140, 120, 121)
	s.finds("a directory without its table", append([]string{"cell 1 0"}, lostFrom(10, 12)...)...)
	s = long(t, 3)
	s.word(s.g.Inodes, 64+12, 100)
	s.free(111)
	s.finds("a middle number that is no data block's", append([]string{"pointer 1 100", "cell 1 0"}, lostFrom(1, 3)...)...)
	s = long(t, 3)
	s.word(s.g.Inodes, 64+12, 110)
	s.free(111)
	s.finds("a middle number that was met before", append([]string{"twice 1 110", "cell 1 0"}, lostFrom(1, 3)...)...)
}

// wrongCells are 32 bytes that are no cell.
func wrongCells() map[string][]byte {
	cell := func(inode byte, length byte, name string) []byte {
		b := make([]byte, 32)
		b[0], b[4] = inode, length
		copy(b[5:], name)
		return b
	}
	l := map[string][]byte{
		"a name of the inode 0":   cell(0, 1, "a"),
		"a length of the inode 0": cell(0, 1, ""),
		"a byte of a free cell":   cell(0, 0, "a"),
		"no name":                 cell(2, 0, ""),
		"a name of no length":     cell(2, 0, "a"),
		"a name too short":        cell(2, 2, "a"),
		"a name too long":         cell(2, 1, "ab"),
		"a length of 28":          cell(2, 28, rep("x", 27)),
		"a length of 255":         cell(2, 255, rep("x", 27)),
		"'.'":                     cell(2, 1, "."),
		"'..'":                    cell(2, 2, ".."),
		"a slash":                 cell(2, 3, "a/b"),
		"a zero byte":             cell(2, 3, "a\x00b"),
	}
	last := cell(2, 1, "a")
	last[31] = 1
	l["a byte at the end"] = last
	return l
}

// P19.1: a directory's block that is no right block of cells: none of its cells counts, and those behind it do.
func TestWrongCells(t *testing.T) {
	for what, b := range wrongCells() {
		for _, place := range []int{0, 1, 15} {
			for k := range 3 {
				s := long(t, 3)
				s.turn(110+k, 32*place, b...)
				s.finds(fmt.Sprint(what, " at ", place, " of block ", k), fmt.Sprint("cell 1 ", 110+k), fmt.Sprint("lost ", 2+k), fmt.Sprint("links ", 2+k))
			}
		}
		s := long(t, 3)
		for k := range 3 {
			s.turn(110+k, 32*5, b...)
		}
		s.finds(what+" in each block", append([]string{"cell 1 110", "cell 1 111", "cell 1 112"}, lostFrom(0, 3)...)...)
		s.drop(1)
		s.finds(what+" in each block, one of which isn't there", append([]string{"cell 1 110", "cell 1 0"}, lostFrom(0, 3)...)...)
	}
	s := fresh(t, 128)
	s.record(1, folder(2, 512, 110))
	s.lay(110, rep("x", 512))
	s.finds("a text for cells", "cell 1 110")
	s.lay(110, "")
	s.finds("no cell at all")
}

// P19.1: a wrong block's cells name nothing: their inodes are lost, a directory that they name may be named elsewhere, its name stand twice.
func TestWrongCellsCount(t *testing.T) {
	s := fresh(t, 128)
	s.dir(1, 3, 110, has("a", 2), has("b", 3))
	s.cells(111, has("a", 2), has("b", 3))
	s.record(1, folder(3, 1024, 110, 111))
	s.record(2, folder(2, 0))
	s.record(3, plainFile(1, 0))
	s.finds("all names twice", "name 1 a", "parent 2 a", "name 1 b", "links 1", "links 3")
	s.turn(110, 511, 1)
	s.finds("the first block wrong", "cell 1 110")
	s.turn(110, 511, 0)
	s.turn(111, 511, 1)
	s.finds("the second block wrong", "cell 1 111")
}

// P19.1: names that an earlier cell of the directory has.
func TestNames(t *testing.T) {
	draw := func(links int, l ...api.Entry) *sketch {
		s := fresh(t, 128)
		s.dir(1, 2, 110, l...)
		s.record(2, plainFile(links, 0))
		return s
	}
	draw(3, has("a", 2), has("b", 2), has("a", 2)).finds("a name twice", "name 1 a")
	draw(3, has("a", 2), has("a", 2), has("a", 2)).finds("a name three times", "name 1 a", "name 1 a")
	draw(4, has("a", 2), has("b", 2), has("b", 2), has("a", 2)).finds("two names twice", "name 1 b", "name 1 a")
	draw(3, has("a", 2), has("A", 2), has("aa", 2)).finds("names that are alike")
	draw(2, has("", 0), has("a", 2), has("", 0), has("", 0), has("a", 2)).finds("free cells between", "name 1 a")
	long := rep("x", 27)
	draw(2, has(long, 2), has(long, 2)).finds("the longest name twice", "name 1 "+long)
	draw(2, has(long, 2), has(long[:26], 2)).finds("a name and its beginning")
	draw(2, has("\xff\x01", 2), has("\xff\x01", 2)).finds("bytes of any kind", "name 1 \xff\x01")

	s := fresh(t, 128)
	l := []api.Entry{has("n", 2)}
	for k := range 15 {
		l = append(l, has(fmt.Sprint("f", k), 2))
	}
	s.dir(1, 2, 110, append(l, has("n", 2), has("f14", 2), has("g", 2))...)
	s.record(2, plainFile(19, 0))
	s.finds("a name in two blocks", "name 1 n", "name 1 f14")

	s = fresh(t, 128)
	s.dir(1, 3, 110, has("a", 2), has("d", 3))
	s.record(2, plainFile(2, 0))
	s.dir(3, 2, 111, has("a", 2))
	s.finds("a name in two directories")
}

// P19.1: FindName comes ahead of FindNone or FindParent of one cell; cells by their place.
func TestCellOrder(t *testing.T) {
	s := fresh(t, 128)
	s.dir(1, 7, 110, has("a", 9), has("a", 9), has("d", 2), has("d", 2), has("e", 2), has("a", 1), has("f", 10), has("d", 1))
	s.record(2, folder(2, 0))
	s.finds("many wrong cells",
		"none 1 a", "name 1 a", "none 1 a", "name 1 d", "parent 2 d", "parent 2 e",
		"name 1 a", "parent 1 a", "none 1 f", "name 1 d", "parent 1 d")
}

// P19.1: a cell that names no inode that is there.
func TestNone(t *testing.T) {
	for _, n := range []int{2, 7, 8, 15, 16, 17, 128, 255, 256, 258, 1 << 16, 1<<16 + 1, 1 << 24, 1 << 31, 1<<32 - 1} {
		s := fresh(t, 128)
		s.dir(1, 2, 110, has("a", n))
		s.finds(fmt.Sprint("a name of ", n), "none 1 a")
	}
	s := fresh(t, 128)
	s.dir(1, 2, 110, has("a", 15))
	s.record(15, plainFile(1, 0))
	s.finds("a name of the last inode")
	s.record(15, plainFile(1001, 0))
	s.finds("a name of no record", "record 15", "none 1 a")
	s = fresh(t, 1024)
	s.dir(1, 3, 130, has("a", 127), has("b", 128))
	s.record(127, folder(2, 0))
	s.finds("names about the last inode of a greater disk", "none 1 b")
}

// P19.1: directories that name themselves, the root, or what another cell names.
func TestParents(t *testing.T) {
	s := fresh(t, 128)
	s.dir(1, 3, 110, has("r", 1))
	s.finds("the root names itself", "parent 1 r")

	s = fresh(t, 128)
	s.dir(1, 3, 110, has("d", 2))
	s.dir(2, 3, 111, has("x", 2))
	s.finds("a directory names itself", "parent 2 x")
	s.dir(2, 3, 111, has("x", 1))
	s.finds("a directory names the root", "parent 1 x")

	s = fresh(t, 128)
	s.dir(2, 3, 111, has("x", 2))
	s.finds("a directory names itself, and nobody else does", "lost 2")

	s = fresh(t, 128)
	s.dir(1, 5, 110, has("a", 2), has("b", 2), has("c", 2))
	s.record(2, folder(2, 0))
	s.finds("three names in the root", "parent 2 b", "parent 2 c")

	// The first one in the order of directories has it, whichever is less deep.
	s = fresh(t, 128)
	s.dir(1, 4, 110, has("low", 3), has("high", 5))
	s.dir(3, 3, 111, has("x", 4))
	s.dir(5, 3, 112, has("y", 4))
	s.record(4, folder(2, 0))
	s.finds("names in two directories", "parent 4 y")
	s.dir(1, 4, 110, has("low", 5), has("high", 3))
	s.finds("the places changed", "parent 4 y")
	s.dir(1, 5, 110, has("low", 5), has("high", 3), has("z", 4))
	s.finds("and a name in the root", "parent 4 x", "parent 4 y")

	s = fresh(t, 128)
	s.dir(1, 3, 110, has("c", 5))
	s.dir(3, 3, 111, has("x", 4))
	s.dir(5, 3, 112, has("y", 4))
	s.record(4, folder(2, 0))
	s.finds("one of them in a directory that isn't reached", "parent 4 y", "lost 3")

	s = fresh(t, 128)
	s.dir(1, 2, 110, has("a", 2), has("b", 2), has("c", 3), has("d", 3))
	s.record(2, plainFile(2, 0))
	s.record(3, linkOf(2, 1, 111))
	s.lay(111, "x")
	s.finds("two names of a file and of a link")
}

// P19.1: cells are those of all directories that are there, of such too as aren't reached.
func TestUnreachedCells(t *testing.T) {
	s := fresh(t, 128)
	s.dir(2, 4, 110, has("a", 3), has("a", 4), has("b", 9), has("c", 5), has("d", 1), has("e", 6))
	s.record(3, plainFile(1, 0))
	s.record(4, plainFile(0, 0))
	s.record(5, folder(2, 0))
	s.record(6, linkOf(1, 1, 111))
	s.lay(111, "x")
	s.finds("a directory that isn't reached", "name 2 a", "none 2 b", "parent 1 d", "lost 2", "lost 3", "lost 4", "links 4", "lost 5", "lost 6")
}

// text draws a symbolic link of a text, in whole blocks.
func text(t *testing.T, s string) *sketch {
	d := fresh(t, 128)
	x := linkOf(1, len(s))
	for k := 0; k*512 < len(s); k++ {
		x.Direct[k] = 110 + k
		d.lay(110+k, s[512*k:])
	}
	d.record(2, x)
	d.reach(101, 2)
	return d
}

// P19.1: the texts of symbolic links.
func TestTexts(t *testing.T) {
	for _, s := range []string{"x", "/", ".", "..", "a/b", rep("x", 27), rep("x/", 32), rep("/.", 256), rep("/", 511), rep("/", 512), rep("/", 513), rep("/", 1023), rep("/", 1024), rep("../", 32), "\xff\n "} {
		text(t, s).finds(fmt.Sprintf("the text %.40q of %d bytes", s, len(s)))
	}
	for _, s := range []string{"\x00", "a\x00", "\x00a", rep("\x00", 512), rep("\x00", 1024), rep("x", 28), rep("x/", 33), rep("../", 33), "/" + rep("x", 28), rep("/", 511) + "\x00", rep("/", 512) + "\x00", rep("/", 1023) + "\x00", rep("/", 500) + rep("x", 28), rep("/", 513) + "\x00" + rep("/", 400)} {
		text(t, s).finds(fmt.Sprintf("the text %.40q of %d bytes", s, len(s)), "text 2")
	}
}

// P19.1: symbolic links without a block.
func TestTextHoles(t *testing.T) {
	for _, n := range []int{1, 5, 511, 512} {
		s := fresh(t, 128)
		s.record(2, linkOf(1, n))
		s.reach(101, 2)
		s.finds(fmt.Sprint("a link of ", n, " bytes without a block"), "text 2")
	}
	for _, n := range []int{513, 514, 1023, 1024} {
		for k := range 2 {
			s := text(t, rep("/", n))
			s.word(s.g.Inodes, 128+8+4*k, 0)
			s.free(110 + k)
			s.finds(fmt.Sprint("a link of ", n, " bytes without its block ", k), "text 2")
			s.word(s.g.Inodes, 128+8+4*k, 7)
			s.finds(fmt.Sprint("a link of ", n, " bytes whose block ", k, " is 7"), "pointer 2 7", "text 2")
		}
		s := text(t, rep("/", n))
		s.word(s.g.Inodes, 128+12, 110)
		s.free(111)
		s.finds(fmt.Sprint("a link of ", n, " bytes with one block twice"), "twice 2 110", "text 2")
	}
	s := text(t, rep("/", 512))
	s.word(s.g.Inodes, 128+4, 600)
	s.finds("a link of 600 bytes with one block", "text 2")
	s = text(t, rep("/", 600))
	s.word(s.g.Inodes, 128+4, 512)
	s.finds("a link of 512 bytes with two blocks", "tail 2 111")
	s = text(t, "abc")
	s.turn(110, 3, 'd')
	s.finds("a byte behind the text: it isn't of it", "tail 2 110")
	s.turn(110, 2, 0)
	s.finds("a text that ends with a zero byte", "tail 2 110", "text 2")
}

// P19.1: directories and links are told of in one row, by rising inodes.
func TestInsideOrder(t *testing.T) {
	s := fresh(t, 128)
	s.dir(1, 4, 110, has("a", 2), has("b", 3), has("c", 4), has("d", 5), has("n", 9))
	s.record(2, linkOf(1, 3))
	s.dir(3, 2, 111, has("n", 10))
	s.record(4, linkOf(1, 3))
	s.record(5, folder(2, 512, 112))
	s.lay(112, "x")
	s.record(6, linkOf(1, 3))
	s.finds("wrong ones of both kinds", "none 1 n", "text 2", "none 3 n", "text 4", "cell 5 112", "text 6", "lost 6", "links 6")
}
