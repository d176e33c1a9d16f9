package dir_test

import (
	"fmt"
	"slices"
	"strings"
	"testing"

	"bole/api"
)

// noRecord is the bytes of a block of the table in which no inode has a record.
func noRecord() []byte { return slices.Repeat([]byte{9}, size) }

// broken is a disk on which everything is wrong that a call could meet: no record in block 100, a directory whose numbers lead nowhere, one whose cells can't be, no block free.
func broken(t *testing.T) *world {
	t.Helper()
	nowhere := sized(aDir, 20*size)
	for at := range 12 {
		nowhere = withNumber(nowhere, at, 5)
	}
	records := map[int]api.Inode{1: nowhere, 2: direct(101), 3: aFile, 4: aLink, 6: aDir}
	w := on(t, 128, none, records, map[int][]byte{101: slices.Repeat([]byte{0x5A}, size)})
	w.lay(100, noRecord())
	return w
}

// P15.1 to P15.4: ErrInval is told ahead of all else: of any inode, any directory, and a transaction that can't be asked.
func TestInvalFirst(t *testing.T) {
	for how := range ends {
		w := broken(t)
		w.end(how)
		w.still(how, func() {
			for _, s := range noNames() {
				for _, n := range []int{-1, 0, 1, 2, 3, 4, 5, 6, 9, 15, 16, 99} {
					w.noFind(how, n, s, api.ErrInval)
					w.noRemove(how, n, s, api.ErrInval)
					for _, i := range []int{-1, 0, 1, 15, 16} {
						w.add(how, n, s, i, api.ErrInval)
						w.noReplace(how, n, s, i, api.ErrInval)
					}
				}
			}
		})
	}
}

// P15.2, P15.4: then ErrInode of the inode, ahead of what is wrong with the directory, and of the name being there or not.
func TestInodeSecond(t *testing.T) {
	for how := range ends {
		w := broken(t)
		w.keep(99)
		w.end(how)
		w.still(how, func() {
			for _, i := range noInodes(w.g) {
				for _, n := range []int{-1, 0, 1, 2, 3, 4, 5, 6, 9, 15, 16, 99} {
					w.add(how, n, "a", i, api.ErrInode)
					w.noReplace(how, n, "a", i, api.ErrInode)
				}
			}
		})
	}
	w := on(t, 128, none, map[int]api.Inode{1: direct(101)}, map[int][]byte{101: full(0)})
	w.still("full", func() {
		for _, i := range noInodes(w.g) {
			for _, s := range []string{name(0), name(15), "none"} {
				w.add("full", 1, s, i, api.ErrInode)
				w.noReplace("full", 1, s, i, api.ErrInode)
			}
		}
	})
}

// P15.2, P15.4: the inodes that there are, on disks of which one has more than the other.
func TestInodesThatMayBe(t *testing.T) {
	for _, length := range []int{128, 192, 300} {
		w := fresh(t, length)
		top := w.g.Count - 1
		w.add("the first", 1, "a", 1, api.OK)
		w.add("the last", 1, "b", top, api.OK)
		w.find("the first", 1, "a", 1)
		w.find("the last", 1, "b", top)
		w.replace("the first", 1, "b", 1, top)
		w.replace("the last", 1, "a", top, 1)
		w.list("both", 1, cell(0, "a", top), cell(1, "b", 1))
		w.still("none", func() {
			for _, i := range noInodes(w.g) {
				if i != 99 || top < 99 {
					w.add("none", 1, "c", i, api.ErrInode)
					w.noReplace("none", 1, "a", i, api.ErrInode)
				}
			}
		})
	}
}

// Opening: numbers that no inode has, whatever the transaction says.
func TestNoInode(t *testing.T) {
	for _, length := range []int{128, 300} {
		for how := range ends {
			w := fresh(t, length)
			w.end(how)
			for _, n := range noInodes(w.g) {
				w.refused(how, n, "a", 1, api.ErrInode)
			}
		}
	}
}

// Opening: what inode.Get says of an inode's block and of its bytes.
func TestWhatGetSays(t *testing.T) {
	for how, code := range ends {
		w := fresh(t, 128)
		w.lay(100, noRecord())
		w.end(how)
		record := api.ErrRecord
		if how == "over" {
			record = api.ErrOver
		}
		w.refused(how+", no record", 9, "a", 1, record)
		if code != api.OK {
			for _, n := range []int{1, 2, 3, 4, 5} {
				w.refused(how, n, "a", 1, code)
			}
		}
	}
	w := fresh(t, 128)
	b := w.block(99)
	b[64+4] = 1
	w.lay(99, b)
	w.refused("a size that is no multiple of 512", 1, "a", 1, api.ErrRecord)
}

// Opening: ErrInode of a free inode, ErrNotDir of a file and of a symbolic link; whatever blocks those have.
func TestNoDirectory(t *testing.T) {
	file, link := aFile, aLink
	file.Direct, file.Size = [10]int{101, 5}, 1024
	link.Direct, link.Size = [10]int{101, 5}, 1024
	records := map[int]api.Inode{1: aDir, 3: aFile, 4: aLink, 6: file, 7: link}
	for _, free := range []func(int) bool{all, none} {
		w := on(t, 300, free, records, map[int][]byte{101: blockOf(cell(0, "a", 1))})
		for _, s := range []string{"a", "b"} {
			for _, n := range []int{2, 5, 8, 31} {
				w.refused("free", n, s, 1, api.ErrInode)
			}
			for _, n := range []int{3, 4, 6, 7} {
				w.refused("no directory", n, s, 1, api.ErrNotDir)
			}
		}
		w.stuff(0)
		w.refused("free, no room", 2, "a", 1, api.ErrInode)
		w.refused("no directory, no room", 3, "a", 1, api.ErrNotDir)
	}
}

// flawed is a directory in which things are wrong: a number is no data block's (look), a block can't be read (read), or its cells can't be (cells).
type flawed struct {
	x      api.Inode
	nums   map[int]map[int]int
	blocks map[int][]byte
	blind  []int
}

// spot is where a number stands, in a table or in the record (0), and at which index it is met first.
type spot struct{ table, at, number, index int }

// The directory has blocks at the indices 8 to 11 and 137 to 139.
var spots = map[string]spot{
	"8": {0, 8, 115, 8}, "9": {0, 9, 116, 9},
	"One": {0, 10, 110, 10}, "10": {110, 0, 117, 10}, "11": {110, 1, 122, 11}, "137": {110, 127, 118, 137},
	"Two": {0, 11, 111, 138}, "Two 0": {111, 0, 112, 138}, "138": {112, 0, 119, 138}, "139": {112, 1, 120, 139},
}

// indices are those that have a block.
var indices = []int{8, 9, 10, 11, 137, 138, 139}

// of is the name that stands in the first, a middle and the last cell of the block at an index.
func of(index, place int) string { return fmt.Sprintf("%d in %d", place, index) }

// sound is the directory with nothing wrong.
func sound() *flawed {
	f := &flawed{x: sized(aDir, 140*size), nums: map[int]map[int]int{110: {}, 111: {}, 112: {}}, blocks: map[int][]byte{}}
	for where := range spots {
		f.set(where, spots[where].number)
	}
	for _, k := range indices {
		f.blocks[spots[fmt.Sprint(k)].number] = blockOf(cell(0, of(k, 0), k%13+1), cell(7, of(k, 7), k%11+2), cell(14, of(k, 14), k%7+3))
	}
	return f
}

func (f *flawed) set(where string, n int) {
	s := spots[where]
	if s.table == 0 {
		f.x = withNumber(f.x, s.at, n)
	} else {
		f.nums[s.table][s.at] = n
	}
}

// spoil makes a thing wrong, and tells the error of it.
func (f *flawed) spoil(fault string) api.Errno {
	word, where, _ := strings.Cut(fault, " ")
	n := spots[where].number
	switch word {
	case "read":
		f.blind = append(f.blind, n)
		return api.ErrDown
	case "cells":
		f.blocks[n] = wrongCells(f.blocks[n])
		return api.ErrCell
	}
	f.set(where, 99)
	return api.ErrPointer
}

// laid lays it on a disk whose power is out, as inode 1, with all put that is to be read.
func (f *flawed) laid(t *testing.T) *world {
	t.Helper()
	blocks := map[int][]byte{}
	for n, nums := range f.nums {
		blocks[n] = table(nums)
	}
	for n, b := range f.blocks {
		blocks[n] = b
	}
	w := on(t, 128, none, map[int]api.Inode{1: f.x}, blocks)
	w.keep(98, 99)
	for _, s := range spots {
		if !slices.Contains(f.blind, s.number) {
			w.keep(s.number)
		}
	}
	w.d.Crash(nil)
	return w
}

// faults are all that can be wrong with it, as they are met.
var faults = []string{
	"look 8", "read 8", "cells 8", "look 9", "read 9", "cells 9",
	"look One", "read One", "look 10", "read 10", "cells 10", "look 11", "read 11", "cells 11", "look 137", "read 137", "cells 137",
	"look Two", "read Two", "look Two 0", "read Two 0", "look 138", "read 138", "cells 138", "look 139", "read 139", "cells 139",
}

func met(fault string) int {
	_, where, _ := strings.Cut(fault, " ")
	return spots[where].index
}

// P15.1 to P15.5: each one fault, and each two: the one ahead is told; but Find, Remove and Replace read no further than the block in which the name stands.
func TestFirstFault(t *testing.T) {
	for i, a := range faults {
		for _, b := range faults[i:] {
			f := sound()
			code := f.spoil(a)
			f.spoil(b)
			w := f.laid(t)
			what := a + " and " + b
			w.refused(what, 1, "none", 1, code)
			w.still(what, func() {
				for _, k := range indices {
					for _, place := range []int{0, 7, 14} {
						w.add(what, 1, of(k, place), 1, code)
						if k >= met(a) {
							w.noFind(what, 1, of(k, place), code)
							w.noRemove(what, 1, of(k, place), code)
							w.noReplace(what, 1, of(k, place), 1, code)
						} else {
							w.find(what, 1, of(k, place), map[int]int{0: k%13 + 1, 7: k%11 + 2, 14: k%7 + 3}[place])
						}
					}
				}
			})
		}
	}
}

// P15.3, P15.4: what is wrong behind the block in which the name stands keeps neither from putting that block.
func TestFaultBehind(t *testing.T) {
	for _, fault := range faults {
		for _, k := range indices {
			if k >= met(fault) {
				continue
			}
			f := sound()
			f.spoil(fault)
			w := f.laid(t)
			number := spots[fmt.Sprint(k)].number
			put, before := w.x.Written(), w.block(number)
			w.replace(fault, 1, of(k, 7), 15, k%11+2)
			before = with(before, cell(7, of(k, 7), 15))
			w.holds(fault, number, before)
			w.remove(fault, 1, of(k, 0), k%13+1)
			w.holds(fault, number, with(before, cell(0, "", 0)))
			w.written(fault, put...)
		}
	}
}

// P15.1 to P15.5: with nothing wrong all is told, and ErrNone or ErrExist come last.
func TestNoFault(t *testing.T) {
	w := sound().laid(t)
	w.still("nothing wrong", func() {
		w.noFind("nothing wrong", 1, "none", api.ErrNone)
		w.noRemove("nothing wrong", 1, "none", api.ErrNone)
		w.noReplace("nothing wrong", 1, "none", 1, api.ErrNone)
		w.add("no block for the first index", 1, "none", 1, api.ErrSpace)
		for _, k := range indices {
			for _, place := range []int{0, 7, 14} {
				w.add("nothing wrong", 1, of(k, place), 1, api.ErrExist)
			}
		}
	})
}

// P15.1 to P15.5: a fault at an index behind the size is no fault.
func TestFaultBehindTheSize(t *testing.T) {
	for _, fault := range faults {
		f := sound()
		f.spoil(fault)
		f.x.Size = met(fault) * size
		w := f.laid(t)
		w.still(fault, func() {
			w.noFind(fault, 1, "none", api.ErrNone)
			w.noRemove(fault, 1, "none", api.ErrNone)
			w.noReplace(fault, 1, "none", 1, api.ErrNone)
			w.add(fault, 1, "none", 1, api.ErrSpace)
			var l []api.Entry
			for _, k := range indices {
				if k < met(fault) {
					l = append(l, cell(16*k, of(k, 0), k%13+1), cell(16*k+7, of(k, 7), k%11+2), cell(16*k+14, of(k, 14), k%7+3))
				}
			}
			slices.SortFunc(l, func(a, b api.Entry) int { return strings.Compare(a.Name, b.Name) })
			w.list(fault, 1, l...)
		})
	}
}

// P15.1 to P15.5: cells that can't be, at each place of a block, ahead of the name and behind it.
func TestWrongCellAnywhere(t *testing.T) {
	for place := range 16 {
		for _, at := range []int{0, 4, 5, 17, 31} {
			b := blockOf(cell((place+1)%16, "a", 2), cell((place+15)%16, "b", 3))
			b[32*place+at] = 1
			w := on(t, 128, all, map[int]api.Inode{1: direct(101), 2: direct(102, 101)}, map[int][]byte{101: b, 102: blockOf(cell(3, "first", 4))})
			what := fmt.Sprintf("byte %d of cell %d", at, place)
			for _, s := range []string{"a", "b", "c"} {
				w.refused(what, 1, s, 1, api.ErrCell)
				w.refused(what, 2, s, 1, api.ErrCell)
			}
			w.find(what, 2, "first", 4)
			w.replace(what, 2, "first", 5, 4)
			w.remove(what, 2, "first", 5)
			w.refused(what, 2, "first", 1, api.ErrCell)
		}
	}
}

// P15.1 to P15.5: behind Commit a transaction is over too.
func TestBehindCommit(t *testing.T) {
	w := fresh(t, 128)
	w.add("under way", 1, "a", 2, api.OK)
	want(t, "Commit", w.x.Commit(), api.OK)
	w.refused("over", 1, "a", 2, api.ErrOver)
	w.refused("over", 99, "a", 2, api.ErrInode)
}
