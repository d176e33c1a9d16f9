package dir_test

import (
	"slices"
	"testing"

	"bole/api"
	"bole/dir"
	"bole/txn"
)

// W3, P15.6: a list that is written over by the caller, its spare room too, changes no other answer, no later one, and nothing that is put.
func TestListsWrittenOver(t *testing.T) {
	for _, count := range []int{1, 15, 16, 17, 33, 160} {
		w := fresh(t, 128)
		w.build(1, (count+15)/16, row(0, count)...)
		w.add("ahead", 1, "z", 3, api.OK)
		cells := append(row(0, count), cell(count, "z", 3))
		w.still("written over", func() {
			first, _ := dir.List(w.x, w.g, 1)
			second, _ := dir.List(w.x, w.g, 1)
			first = first[:cap(first)]
			for i := range first {
				first[i] = cell(99, "written over", 99)
			}
			if !slices.Equal(second, cells) {
				t.Errorf("W3: a list has changed with another one: %s, want %s", short(second), short(cells))
			}
			_ = append(second[:0], first...)
			w.list("written over", 1, cells...)
		})
	}
}

// W3, P15.6: what was told stays as it was, whatever comes behind it.
func TestToldStays(t *testing.T) {
	w := fresh(t, 128)
	w.build(1, 2, row(0, 17)...)
	l, _ := dir.List(w.x, w.g, 1)
	for i := range 17 {
		w.replace("behind it", 1, name(i), 15, 1+i%15)
		w.remove("behind it", 1, name(i), 15)
		w.add("behind it", 1, rep("z", i+1), 3, api.OK)
	}
	w.x.Abort()
	if !slices.Equal(l, row(0, 17)) {
		t.Errorf("P15.6: what was told is %s now", short(l))
	}
}

// W3: a name that was handed in isn't kept in the caller's memory.
func TestNameIsCopied(t *testing.T) {
	w := fresh(t, 128)
	b := []byte("a name")
	w.add("a name", 1, string(b), 3, api.OK)
	copy(b, "other!")
	w.find("a name", 1, "a name", 3)
	w.noFind("a name", 1, "other!", api.ErrNone)
}

// W5, D11: nothing is kept between the calls: what is put beside them, taken back, or let go, is what they see.
func TestNothingIsKept(t *testing.T) {
	w := on(t, 128, all, map[int]api.Inode{1: direct(110), 2: direct(110, 111), 3: aFile}, map[int][]byte{110: full(0), 111: full(1)})
	w.list("as laid", 1, row(0, 16)...)
	w.find("as laid", 1, name(3), 4)
	mark, _ := w.x.Mark()

	w.lay(110, blockOf(cell(5, name(3), 9)))
	w.list("other cells", 1, cell(5, name(3), 9))
	w.find("other cells", 1, name(3), 9)
	w.noFind("other cells", 1, name(4), api.ErrNone)
	w.add("other cells", 1, "z", 2, api.OK)
	w.list("other cells", 1, cell(5, name(3), 9), cell(0, "z", 2))

	w.setRecord(1, w.record(2))
	w.find("another record", 1, name(20), 6)
	w.setRecord(1, aFile)
	w.refused("a file", 1, name(3), 2, api.ErrNotDir)
	w.setRecord(1, api.Inode{})
	w.refused("free", 1, name(3), 2, api.ErrInode)
	w.setRecord(3, aDir)
	w.list("a directory now", 3)
	w.add("a directory now", 3, "z", 2, api.OK)

	want(t, "Back", w.x.Back(mark), api.OK)
	w.list("back", 1, row(0, 16)...)
	w.list("back", 2, row(0, 32)...)
	w.refused("back", 3, "z", 2, api.ErrNotDir)

	w.remove("let go", 1, name(0), 1)
	w.x.Abort()
	w.refused("over", 1, name(0), 1, api.ErrOver)
	w.x = txn.Begin(w.d)
	w.list("anew", 1, row(0, 16)...)
}

// W5: two disks beside each other, with directories of the same number: neither call knows of the other.
func TestTwoDisks(t *testing.T) {
	a, b := fresh(t, 128), fresh(t, 300)
	for i := range 20 {
		a.add("one", 1, name(i), 1+i%15, api.OK)
		b.noFind("the other", 1, name(i), api.ErrNone)
		b.add("the other", 1, name(100+i), 1+i%31, api.OK)
		a.noFind("one", 1, name(100+i), api.ErrNone)
	}
	a.remove("one", 1, name(2), 3)
	a.list("one", 1, slices.Delete(row(0, 20), 2, 3)...)
	for i := range 20 {
		b.find("the other", 1, name(100+i), 1+i%31)
	}
	b.add("what the other has no inode for", 1, "z", 31, api.OK)
	a.add("what the other has no inode for", 1, "z", 31, api.ErrInode)
}

// P15.1 to P15.5: a call that is refused has no answer beside the error, and may be made again, with the same answer.
func TestRefusedAgain(t *testing.T) {
	w := on(t, 128, none, map[int]api.Inode{1: direct(110), 2: direct(111)}, map[int][]byte{110: full(0), 111: wrongCells(full(1))})
	for range 3 {
		w.still("again", func() {
			w.add("no space", 1, "z", 3, api.ErrSpace)
			w.add("it stands", 1, name(7), 3, api.ErrExist)
			w.noRemove("it isn't there", 1, "z", api.ErrNone)
			w.noReplace("it isn't there", 1, "z", 3, api.ErrNone)
			w.list("as it was", 1, row(0, 16)...)
		})
		w.refused("wrong cells", 2, "z", 3, api.ErrCell)
	}
}
