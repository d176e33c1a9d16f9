package check_test

import (
	"fmt"
	"slices"
	"testing"

	"bole/api"
)

// spot is a place at which a number can stand, of a file that is drawn with its tables.
type spot struct {
	what  string
	index int // of the number, where it is an index's own; else -1
	put   func(s *sketch, num int)
}

// The tables of the file of spots.
const (
	one   = 300 // told by One
	two   = 301 // told by Two
	first = 302 // told by two, at 0
	last  = 303 // told by two, at 127
)

// spots are the places at which a number of inode 2, a file of the greatest size, can be: direct ones, in each table, and those of the tables.
func spots() []spot {
	var l []spot
	for k := range 10 {
		l = append(l, spot{fmt.Sprint("Direct ", k), k, func(s *sketch, num int) { s.word(s.g.Inodes, 128+8+4*k, num) }})
	}
	in := func(what string, table, from int) {
		for _, i := range []int{0, 1, 64, 126, 127} {
			l = append(l, spot{fmt.Sprint(what, " at ", i), from + i, func(s *sketch, num int) { s.word(table, 4*i, num) }})
		}
	}
	in("the table of One", one, 10)
	in("the first table of Two", first, 138)
	in("the last table of Two", last, 138+127*128)
	return l
}

// word lays a number of four bytes into a block.
func (s *sketch) word(block, at, num int) {
	s.turn(block, at, byte(num), byte(num>>8), byte(num>>16), byte(num>>24))
}

// wide is a disk of 512 blocks on which the file 2 has all its tables, with a block at index 12, 140 and 138 + 127 * 128 + 2.
func wide(t *testing.T) *sketch {
	s := fresh(t, 512)
	x := plainFile(1, api.MaxFile)
	x.One, x.Two = one, two
	s.record(2, x)
	s.table(one, map[int]int{2: 310})
	s.table(two, map[int]int{0: first, 127: last})
	s.table(first, map[int]int{2: 311})
	s.table(last, map[int]int{2: 312})
	s.take(310, 311, 312)
	s.reach(200, 2)
	return s
}

// noData are numbers that are no data block's on a disk of so many blocks.
func noData(g api.Geo) []int {
	return []int{1, 2, 97, 98, g.Data - 1, g.Blocks, g.Blocks + 1, 1 << 16, 1<<16 + g.Data, 1 << 31, 1<<32 - 1}
}

// P19.1: a number that is no data block's, and the edges of those that are, at each place.
func TestPointers(t *testing.T) {
	z := wide(t)
	z.finds("a file with all its tables")
	for _, p := range spots() {
		for _, num := range noData(z.g) {
			s := z.copy()
			p.put(s, num)
			s.finds(fmt.Sprint(p.what, ": ", num), fmt.Sprint("pointer 2 ", num))
		}
		for _, num := range []int{z.g.Data, z.g.Data + 1, z.g.Blocks - 2, z.g.Blocks - 1} {
			s := z.copy()
			p.put(s, num)
			s.finds(fmt.Sprint(p.what, ": ", num, ", which is free"), fmt.Sprint("free ", num))
			s.take(num)
			s.finds(fmt.Sprint(p.what, ": ", num))
		}
	}
}

// P19.1: a table's number that is no data block's: nothing more is done with it, so its blocks have none.
func TestTablePointers(t *testing.T) {
	z := wide(t)
	for _, num := range noData(z.g) {
		s := z.copy()
		s.word(s.g.Inodes, 128+48, num)
		s.finds(fmt.Sprint("One ", num), fmt.Sprint("pointer 2 ", num), "taken 300", "taken 310")
		s = z.copy()
		s.word(s.g.Inodes, 128+52, num)
		s.finds(fmt.Sprint("Two ", num), fmt.Sprint("pointer 2 ", num), "taken 301", "taken 302", "taken 303", "taken 311", "taken 312")
		s = z.copy()
		s.word(two, 0, num)
		s.finds(fmt.Sprint("the first table of Two ", num), fmt.Sprint("pointer 2 ", num), "taken 302", "taken 311")
		s = z.copy()
		s.word(two, 4*5, num)
		s.finds(fmt.Sprint("a table between those of Two ", num), fmt.Sprint("pointer 2 ", num))
	}
	s := z.copy()
	s.word(s.g.Inodes, 128+48, z.g.Data)
	s.table(z.g.Data, map[int]int{0: 310})
	s.finds("One the first data block", "taken 300")
	s = z.copy()
	s.word(s.g.Inodes, 128+52, z.g.Blocks-1)
	s.table(z.g.Blocks-1, map[int]int{1: first, 2: last})
	s.finds("Two the last data block", "taken 301")
}

// P19.1: numbers are gone through in their order: direct ones, One and its table, Two and each of its tables with what that tells.
func TestNumbersOrder(t *testing.T) {
	s := fresh(t, 512)
	x := plainFile(1, api.MaxFile, 1, 2, 0, 0, 0, 0, 0, 0, 0, 3)
	x.One, x.Two = one, two
	s.record(2, x)
	s.table(one, map[int]int{0: 4, 5: 310, 6: 310, 127: 5})
	s.table(two, map[int]int{0: 6, 1: first, 2: one, 3: 7, 4: last, 127: 8})
	s.table(first, map[int]int{0: 9, 1: 310, 127: 10})
	s.table(last, map[int]int{3: 11, 4: last, 5: two, 6: 12})
	s.take(310)
	s.reach(200, 2, 3)
	s.record(3, plainFile(1, 512, 13, 310))
	s.finds("wrong numbers at many places",
		"pointer 2 1", "pointer 2 2", "pointer 2 3",
		"pointer 2 4", "twice 2 310", "pointer 2 5",
		"pointer 2 6", "pointer 2 9", "twice 2 310", "pointer 2 10", "twice 2 300", "pointer 2 7",
		"pointer 2 11", "twice 2 303", "twice 2 301", "pointer 2 12", "pointer 2 8",
		"pointer 3 13", "twice 3 310")
}

// P19.1: each place has a block that another place has already, or gives its own to a later one.
func TestTwice(t *testing.T) {
	z := wide(t)
	l := spots()
	for i, p := range l {
		for _, q := range l[i+1:] {
			s := z.copy()
			p.put(s, 400)
			q.put(s, 400)
			s.take(400)
			// Where a place of wide's own was written over, its block has none.
			s.finds(p.what+" and "+q.what, "twice 2 400")
		}
		s := z.copy()
		p.put(s, one)
		if p.index < 10 {
			s.finds(p.what+" has the table of One", "twice 2 300", "taken 310")
		} else {
			s.finds(p.what+" has the table of One", "twice 2 300")
		}
		s = z.copy()
		p.put(s, two)
		if p.index < 138 {
			s.finds(p.what+" has the table of Two", "twice 2 301", "taken 302", "taken 303", "taken 311", "taken 312")
		} else {
			s.finds(p.what+" has the table of Two", "twice 2 301")
		}
		s = z.copy()
		p.put(s, last)
		if p.index < 138+127*128 {
			s.finds(p.what+" has the last table", "twice 2 303", "taken 312")
		} else {
			s.finds(p.what+" has the last table", "twice 2 303")
		}
	}
}

// P19.1: tables that are told twice, or tell themselves.
func TestTablesTwice(t *testing.T) {
	z := wide(t)
	s := z.copy()
	s.word(s.g.Inodes, 128+52, one)
	s.finds("One and Two the same", "twice 2 300", "taken 301", "taken 302", "taken 303", "taken 311", "taken 312")
	s = z.copy()
	s.word(two, 0, two)
	s.finds("a table of tables that tells itself", "twice 2 301", "taken 302", "taken 311")
	s = z.copy()
	s.word(two, 4*127, first)
	s.finds("a table twice in the table of tables", "twice 2 302", "taken 303", "taken 312")
	s = z.copy()
	s.word(two, 4, 310)
	s.finds("a block of an index as a table", "twice 2 310")
	s = z.copy()
	for i := range 128 {
		s.word(two, 4*i, two)
	}
	s.finds("a table of tables that tells nothing but itself", append(slices.Repeat([]string{"twice 2 301"}, 128), "taken 302", "taken 303", "taken 311", "taken 312")...)
}

// P19.1: a block that two inodes have: the one with the lower number has it, the other one does nothing more with it.
func TestTwoInodes(t *testing.T) {
	draw := func(two, three api.Inode) *sketch {
		s := fresh(t, 512)
		s.record(2, two)
		s.record(3, three)
		s.table(one, map[int]int{0: 310, 1: 7})
		s.take(310)
		s.lay(311, rep("x", size))
		s.reach(200, 2, 3)
		return s
	}
	with := func(x api.Inode, one int) api.Inode {
		x.One = one
		return x
	}
	tabled := with(plainFile(1, api.MaxFile), one)
	draw(tabled, tabled).finds("a table of two files", "pointer 2 7", "twice 3 300", "taken 311")
	draw(tabled, plainFile(1, 512, one)).finds("a table, and a file's block", "pointer 2 7", "twice 3 300", "taken 311")
	draw(plainFile(1, 512, one), tabled).finds("a file's block, and a table", "twice 3 300", "taken 310", "taken 311")
	draw(tabled, plainFile(1, 512, 310)).finds("a block by a table, and by a direct number", "pointer 2 7", "twice 3 310", "taken 311")
	draw(plainFile(1, 512, 310), tabled).finds("a block by a direct number, and by a table", "twice 3 310", "pointer 3 7", "taken 311")
	draw(plainFile(1, 512, 311), plainFile(1, 5, 311)).finds("a block that is all the first one's, and too full for the second", "twice 3 311", "taken 300", "taken 310")
	draw(plainFile(1, 5, 311), plainFile(1, 512, 311)).finds("the other way round", "tail 2 311", "twice 3 311", "taken 300", "taken 310")
	draw(plainFile(1, 512, 311), plainFile(1, 0, 311)).finds("a block behind the size that another one has", "twice 3 311", "taken 300", "taken 310")

	s := fresh(t, 128)
	s.dir(1, 3, 101, has("d", 2))
	s.record(2, folder(2, 512, 101))
	s.finds("a directory with the root's block: it has none", "twice 2 101", "cell 2 0")
	s = fresh(t, 128)
	s.dir(1, 3, 110, has("d", 2), has("l", 3), has("k", 4))
	s.record(2, folder(2, 512, 111))
	s.record(3, linkOf(1, 5, 111))
	s.record(4, linkOf(1, 5, 112))
	s.lay(111, "")
	s.lay(112, "a/b/c")
	s.finds("a link with a directory's block: it reads as zeros", "twice 3 111", "text 3")
	s.record(3, linkOf(1, 5, 112))
	s.free(111)
	s.finds("a link with another one's block", "twice 4 112", "free 111", "text 4")
}

// P19.1: a table without a number.
func TestZeroTables(t *testing.T) {
	z := wide(t)
	s := z.copy()
	s.table(one, nil)
	s.finds("One's table of zeros", "tail 2 300", "taken 310")
	s = z.copy()
	s.table(two, nil)
	s.finds("Two's table of zeros", "tail 2 301", "taken 302", "taken 303", "taken 311", "taken 312")
	s = z.copy()
	s.table(first, nil)
	s.finds("the first table of Two of zeros", "tail 2 302", "taken 311")
	s = z.copy()
	s.table(last, nil)
	s.table(one, nil)
	s.finds("two tables of zeros", "tail 2 300", "tail 2 303", "taken 310", "taken 312")
	for _, at := range []int{0, 1, 2, 3, 4, 256, 508, 511} {
		s = z.copy()
		s.table(one, nil)
		s.turn(one, at, 1)
		num := 1 << (8 * (at % 4))
		if num == 256 {
			s.finds("a table of one number that may be", "free 256", "taken 310")
			continue
		}
		s.finds(fmt.Sprint("a table of zeros but for byte ", at), fmt.Sprint("pointer 2 ", num), "taken 310")
	}
	// Of an empty file each table that has a number tells just of that.
	s = z.copy()
	s.word(s.g.Inodes, 128+4, 0)
	s.finds("tables of an empty file", "tail 2 310", "tail 2 311", "tail 2 312")
	s.table(one, nil)
	s.table(first, nil)
	s.finds("and some of them of zeros", "tail 2 300", "tail 2 302", "tail 2 312", "taken 310", "taken 311")
}

// P19.1: an index at ceil(Size / 512), just below it and behind it, over each of the tables.
func TestBehindSize(t *testing.T) {
	z := wide(t)
	for _, p := range spots() {
		for _, size := range []int{0, 1, 511, 512, 512*p.index - 1, 512 * p.index, 512*p.index + 1, 512*p.index + 511, 512*p.index + 512, 512*p.index + 513, api.MaxFile - 1, api.MaxFile} {
			if size < 0 || size > api.MaxFile {
				continue
			}
			s := fresh(t, 512)
			x := plainFile(1, size)
			switch {
			case p.index >= 138:
				x.Two = two
				s.table(two, map[int]int{(p.index - 138) / 128: 302 + (p.index-138)/128/127})
				s.table(302+(p.index-138)/128/127, nil)
			case p.index >= 10:
				x.One = one
				s.table(one, nil)
			}
			s.record(2, x)
			p.put(s, 400)
			s.reach(200, 2)
			s.lay(400, "")
			if what := fmt.Sprint(p.what, ", Size ", size, ", a block of zeros"); size > 512*p.index {
				s.finds(what)
			} else {
				s.finds(what, "tail 2 400")
			}
			s.lay(400, rep("x", 512))
			if what := fmt.Sprint(p.what, ", Size ", size, ", a full block"); size >= 512*p.index+512 {
				s.finds(what)
			} else {
				s.finds(what, "tail 2 400")
			}
		}
	}
	z.finds("a file of the greatest size")
}

// P19.1: several blocks behind the size, each told, in the order in which they are met.
func TestManyBehindSize(t *testing.T) {
	s := wide(t)
	s.word(s.g.Inodes, 128+8, 401)
	s.word(s.g.Inodes, 128+8+4*9, 402)
	s.lay(401, "abc")
	s.take(402)
	s.word(s.g.Inodes, 128+4, 3)
	s.finds("a file of three bytes", "tail 2 402", "tail 2 310", "tail 2 311", "tail 2 312")
	s.word(s.g.Inodes, 128+4, 2)
	s.finds("a file of two bytes", "tail 2 401", "tail 2 402", "tail 2 310", "tail 2 311", "tail 2 312")
	s.word(s.g.Inodes, 128+4, 512*13)
	s.finds("a file up to the table's block", "tail 2 311", "tail 2 312")
}

// P19.1: each byte of the last block, at Size % 512 or behind it, by itself.
func TestTailBytes(t *testing.T) {
	for _, within := range []int{1, 5, 256, 511} {
		for _, index := range []int{0, 9} {
			s := fresh(t, 128)
			x := plainFile(1, 512*index+within)
			x.Direct[index] = 110
			s.record(2, x)
			s.reach(101, 2)
			s.lay(110, rep("x", within))
			s.finds(fmt.Sprint("a file of ", x.Size))
			for at := range size {
				s.turn(110, at, 0x80)
				if what := fmt.Sprint("a file of ", x.Size, ", byte ", at); at < within {
					s.finds(what)
				} else {
					s.finds(what, "tail 2 110")
				}
				s.lay(110, rep("x", within))
			}
		}
	}
	s := fresh(t, 128)
	s.record(2, plainFile(1, 700, 110, 111))
	s.reach(101, 2)
	s.lay(110, rep("x", 512))
	s.lay(111, rep("x", 188))
	s.finds("bytes in a block that isn't the last one")
	s.record(2, plainFile(1, 700, 111, 110))
	s.finds("the blocks the other way round", "tail 2 110")
	s.record(2, plainFile(1, 1500, 110, 110, 0))
	s.free(111)
	s.finds("a last index without a block", "twice 2 110")
	s.record(2, linkOf(1, 700, 110, 111))
	s.lay(110, rep("/", 512))
	s.lay(111, rep("/", 189))
	s.finds("a link's last block", "tail 2 111")
}

// P19.1: what is behind the size of directories and symbolic links.
func TestOtherTails(t *testing.T) {
	s := fresh(t, 128)
	s.dir(1, 3, 101, has("d", 2), has("l", 3))
	s.record(2, folder(2, 0, 110))
	s.cells(110, has("x", 9))
	s.record(3, linkOf(1, 1, 111, 112))
	s.lay(111, "x")
	s.lay(112, "")
	s.finds("blocks behind the size", "tail 2 110", "tail 3 112")
	x := linkOf(1, 1024, 111, 112)
	x.One, x.Two = 113, 114
	s.record(3, x)
	s.lay(111, rep("/", 512))
	s.lay(112, rep("/", 512))
	s.table(113, map[int]int{127: 115})
	s.table(114, map[int]int{0: 116})
	s.table(116, map[int]int{0: 117})
	s.take(115, 117)
	s.finds("a link with tables", "tail 2 110", "tail 3 115", "tail 3 117")
}

// P19.1: data blocks that are had and free, and those that are taken and had by none; tables too; by rising blocks.
func TestFreeAndTaken(t *testing.T) {
	z := wide(t)
	for _, k := range []int{200, one, two, first, last, 310, 311, 312} {
		s := z.copy()
		s.free(k)
		s.finds(fmt.Sprint("block ", k, " is had and free"), fmt.Sprint("free ", k))
	}
	for k := z.g.Data; k < z.g.Blocks; k++ {
		s := z.copy()
		s.take(k)
		if what := fmt.Sprint("block ", k, " is taken"); slices.Contains([]int{200, one, two, first, last, 310, 311, 312}, k) {
			s.finds(what)
		} else {
			s.finds(what, fmt.Sprint("taken ", k))
		}
	}
	z.free(200, 302, 312)
	z.take(199, 201, 304, z.g.Data, 511)
	z.finds("many", fmt.Sprint("taken ", z.g.Data), "taken 199", "free 200", "taken 201", "free 302", "taken 304", "free 312", "taken 511")
}

// P19.1: what a record that isn't there would tell is not gone through.
func TestNotThere(t *testing.T) {
	s := fresh(t, 128)
	s.record(2, plainFile(1001, 5, 110, 110, 1))
	s.finds("numbers of no record", "record 2")
	s.record(2, plainFile(0, 5, 110, 110, 1))
	s.lay(110, "")
	s.finds("numbers of an orphan", "twice 2 110", "pointer 2 1", "orphan 2")
}
