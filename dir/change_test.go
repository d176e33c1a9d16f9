package dir_test

import (
	"fmt"
	"slices"
	"testing"

	"bole/api"
	"bole/bmap"
)

// P15.1, P15.3, P15.4: directories of 0, 1, 16, 17, 32 and 160 names: each name in its own cell, and none that isn't there.
func TestEachName(t *testing.T) {
	for _, count := range []int{0, 1, 15, 16, 17, 32, 33, 160, 161, 200} {
		w := fresh(t, 128)
		w.build(1, (count+15)/16, row(0, count)...)
		w.build(2, 1, cell(3, "other", 5))
		w.list("as laid", 1, row(0, count)...)
		x := w.record(1)
		for i := range count {
			what := fmt.Sprintf("%d of %d", i, count)
			w.still(what, func() { w.find(what, 1, name(i), 1+i%15) })
		}
		for _, s := range []string{"other", name(count), "n0000", "n000000", "N00000", "n", "00000"} {
			w.still(s, func() {
				w.noFind(s, 1, s, api.ErrNone)
				w.noRemove(s, 1, s, api.ErrNone)
				w.noReplace(s, 1, s, 1, api.ErrNone)
			})
		}
		w.is("the record", 1, x)
		w.list("the other one", 2, cell(3, "other", 5))
	}
}

// at is the block of an index that has one.
func (w *world) at(n, index int) int {
	w.t.Helper()
	i, e := bmap.Find(w.x, w.g, w.record(n), index)
	if i == 0 || e != api.OK {
		w.t.Fatalf("the block at %d: %d, %d", index, i, e)
	}
	return i
}

// P15.3: the block of the name is put without its cell, and nothing else; not the record.
func TestRemoveAlone(t *testing.T) {
	for _, count := range []int{1, 16, 17, 32, 160, 170} {
		for i := range count {
			w := fresh(t, 128)
			w.build(1, (count+15)/16, row(0, count)...)
			x, number := w.record(1), w.at(1, i/16)
			before := w.block(number)
			what := fmt.Sprintf("%d of %d", i, count)
			w.remove(what, 1, name(i), 1+i%15)
			w.written(what, number)
			w.holds(what, number, with(before, cell(i%16, "", 0)))
			w.is(what, 1, x)
			w.noFind(what, 1, name(i), api.ErrNone)
			w.still(what, func() { w.noRemove(what, 1, name(i), api.ErrNone) })
			w.list(what, 1, slices.Delete(row(0, count), i, i+1)...)
		}
	}
}

// P15.4: the block of the name is put with another inode in its cell, and nothing else; also with the one that it had.
func TestReplaceAlone(t *testing.T) {
	for _, count := range []int{1, 16, 17, 32, 160, 170} {
		for i := range count {
			w := fresh(t, 128)
			w.build(1, (count+15)/16, row(0, count)...)
			x, number := w.record(1), w.at(1, i/16)
			before := w.block(number)
			what := fmt.Sprintf("%d of %d", i, count)
			w.replace(what, 1, name(i), 1+i%15, 1+i%15)
			w.written(what, number)
			w.holds(what, number, before)
			to := 15 - i%15
			w.replace(what, 1, name(i), to, 1+i%15)
			w.written(what, number)
			w.holds(what, number, with(before, cell(i%16, name(i), to)))
			w.is(what, 1, x)
			w.find(what, 1, name(i), to)
			l := row(0, count)
			l[i].Inode = to
			w.list(what, 1, l...)
		}
	}
}

// P15.3, P15.4: ErrTooBig, if the transaction takes no block more and the name's isn't put; else both are done.
func TestNoRoom(t *testing.T) {
	lay := func(kept ...int) *world {
		w := on(t, 300, none, map[int]api.Inode{1: direct(110, 111)}, map[int][]byte{110: full(0), 111: full(1)})
		w.keep(kept...)
		w.stuff(0)
		return w
	}
	w := lay()
	w.still("no room", func() {
		for _, i := range []int{0, 15, 16, 31} {
			w.noRemove("no room", 1, name(i), api.ErrTooBig)
			w.noReplace("no room", 1, name(i), 7, api.ErrTooBig)
			w.find("no room", 1, name(i), 1+i%15)
		}
		w.noRemove("no room", 1, "none", api.ErrNone)
		w.noReplace("no room", 1, "none", 7, api.ErrNone)
		w.list("no room", 1, row(0, 32)...)
	})
	w = lay(110)
	w.replace("one is put", 1, name(4), 7, 5)
	w.remove("one is put", 1, name(4), 7)
	w.still("the other one isn't", func() {
		w.noRemove("the other one isn't", 1, name(16), api.ErrTooBig)
		w.noReplace("the other one isn't", 1, name(16), 7, api.ErrTooBig)
	})
	w.add("a free cell of a block that is put", 1, "z", 3, api.OK)
	w.holds("a free cell of a block that is put", 110, with(full(0), cell(4, "z", 3)))
}

// P15.1, P15.3, P15.4: of a name that stands twice, in one block or in two, the lower place counts.
func TestTwice(t *testing.T) {
	for _, places := range [][2]int{{0, 1}, {0, 15}, {3, 9}, {14, 15}, {0, 16}, {15, 16}, {9, 20}, {15, 31}, {5, 175}, {159, 160}, {161, 162}} {
		for _, inodes := range [][2]int{{4, 5}, {5, 4}} {
			w := fresh(t, 128)
			a, b := cell(places[0], "twice", inodes[0]), cell(places[1], "twice", inodes[1])
			w.build(1, 11, a, b)
			what := fmt.Sprint(places)
			w.find(what, 1, "twice", a.Inode)
			w.add(what, 1, "twice", 9, api.ErrExist)
			w.list(what, 1, a, b)
			w.replace(what, 1, "twice", 9, a.Inode)
			a.Inode = 9
			w.list(what, 1, a, b)
			w.find(what, 1, "twice", 9)
			w.written(what, w.at(1, a.Place/16))
			w.again()
			w.remove(what, 1, "twice", 9)
			w.written(what, w.at(1, a.Place/16))
			w.list(what, 1, b)
			w.find(what, 1, "twice", b.Inode)
			w.remove(what, 1, "twice", b.Inode)
			w.noRemove(what, 1, "twice", api.ErrNone)
			w.list(what, 1)
		}
	}
}

// P15.1, P15.3, P15.4: a name that stands twice is found in the block ahead, whatever is wrong with the one behind.
func TestTwiceAndWrong(t *testing.T) {
	bad := wrongCells(blockOf(cell(0, "twice", 5)))
	blocks := map[int][]byte{110: blockOf(cell(2, "twice", 4)), 111: bad}
	w := on(t, 128, all, map[int]api.Inode{1: direct(110, 111), 2: direct(111, 110), 3: direct(110, 5)}, blocks)
	w.refused("wrong ahead", 2, "twice", 1, api.ErrCell)
	for n, code := range map[int]api.Errno{1: api.ErrCell, 3: api.ErrPointer} {
		w.find("wrong behind", n, "twice", 4)
		w.still("wrong behind", func() {
			w.add("wrong behind", n, "twice", 1, code)
			w.noList("wrong behind", n, code)
		})
		w.replace("wrong behind", n, "twice", 9, 4)
		w.replace("wrong behind", n, "twice", 4, 9)
	}
	w.remove("wrong behind", 1, "twice", 4)
	w.refused("wrong ahead now", 1, "twice", 1, api.ErrCell)
	w.refused("wrong ahead now", 3, "twice", 1, api.ErrPointer)
}

// P15.1 to P15.5: one block at two indices: its names stand at both, and go from both.
func TestOneBlockTwice(t *testing.T) {
	w := on(t, 128, none, map[int]api.Inode{1: direct(110, 0, 110)}, map[int][]byte{110: blockOf(cell(1, "a", 3), cell(2, "b", 4))})
	w.list("one block twice", 1, cell(1, "a", 3), cell(33, "a", 3), cell(2, "b", 4), cell(34, "b", 4))
	w.replace("one block twice", 1, "b", 5, 4)
	w.list("one block twice", 1, cell(1, "a", 3), cell(33, "a", 3), cell(2, "b", 5), cell(34, "b", 5))
	w.remove("one block twice", 1, "a", 3)
	w.add("one block twice", 1, "c", 6, api.OK)
	w.list("one block twice", 1, cell(2, "b", 5), cell(34, "b", 5), cell(0, "c", 6), cell(32, "c", 6))
	w.noRemove("one block twice", 1, "a", api.ErrNone)
}

// P15.1 to P15.5: two directories that have the same block see the same names; no call looks at another one's record.
func TestTwoDirectories(t *testing.T) {
	w := fresh(t, 128)
	w.add("one", 1, "a", 3, api.OK)
	w.add("the other", 2, "a", 4, api.OK)
	w.add("the other", 2, "b", 5, api.OK)
	w.list("one", 1, cell(0, "a", 3))
	w.list("the other", 2, cell(0, "a", 4), cell(1, "b", 5))
	w.remove("the other", 2, "a", 4)
	w.find("one", 1, "a", 3)
	w.noFind("one", 1, "b", api.ErrNone)
	w.list("a third", 9)
	w.setRecord(9, w.record(2))
	w.list("a third", 9, cell(1, "b", 5))
	w.replace("a third", 9, "b", 6, 5)
	w.find("the other", 2, "b", 6)
	w.find("one", 1, "a", 3)
}

// P15.1 to P15.5: what an inode is that a name has is no matter: one that is free, no inode's number on a disk that others have written, the directory itself.
func TestAnyInode(t *testing.T) {
	top := 4294967295
	w := on(t, 128, all, map[int]api.Inode{1: direct(110)}, map[int][]byte{110: blockOf(cell(0, "far", top), cell(1, "none", 16), cell(2, "self", 1))})
	w.lay(100, noRecord())
	w.find("far", 1, "far", top)
	w.find("none", 1, "none", 16)
	w.find("self", 1, "self", 1)
	w.add("free", 1, "free", 5, api.OK)
	w.add("no record", 1, "wrong", 9, api.OK)
	w.add("a directory again", 1, "again", 1, api.OK)
	w.list("all", 1, cell(5, "again", 1), cell(0, "far", top), cell(3, "free", 5), cell(1, "none", 16), cell(2, "self", 1), cell(4, "wrong", 9))
	w.replace("far", 1, "far", 15, top)
	w.remove("none", 1, "none", 16)
}

// P15.1 to P15.5: what stands at an index behind the size is no name.
func TestNamesBehindTheSize(t *testing.T) {
	for blocks := range 4 {
		x := sized(direct(110, 111, 112), blocks*size)
		w := on(t, 128, all, map[int]api.Inode{1: x}, map[int][]byte{110: full(0), 111: full(1), 112: full(2)})
		w.list("up to the size", 1, row(0, 16*blocks)...)
		for i := 16 * blocks; i < 48; i++ {
			w.still("behind the size", func() {
				w.noFind("behind the size", 1, name(i), api.ErrNone)
				w.noRemove("behind the size", 1, name(i), api.ErrNone)
				w.noReplace("behind the size", 1, name(i), 1, api.ErrNone)
			})
		}
		if blocks > 0 {
			w.add("up to the size", 1, name(16*blocks-1), 1, api.ErrExist)
		}
	}
}
