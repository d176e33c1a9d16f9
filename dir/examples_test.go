package dir_test

import (
	"testing"

	"bole/api"
)

// Examples 1 and 2: names that come, go and have other inodes.
func TestExamplesOneAndTwo(t *testing.T) {
	w := fresh(t, 128)
	w.list("example 1", 1)
	w.noFind("example 1", 1, "a", api.ErrNone)
	w.add("example 1", 1, "a", 2, api.OK)
	w.blocks("example 1", 1, 1)
	w.find("example 1", 1, "a", 2)
	w.add("example 1", 1, "a", 3, api.ErrExist)
	w.add("example 1", 1, "b", 3, api.OK)
	w.list("example 1", 1, cell(0, "a", 2), cell(1, "b", 3))

	w.remove("example 2", 1, "a", 2)
	w.noRemove("example 2", 1, "a", api.ErrNone)
	w.add("example 2", 1, "z", 2, api.OK)
	w.list("example 2", 1, cell(1, "b", 3), cell(0, "z", 2))
	w.replace("example 2", 1, "b", 7, 3)
	w.find("example 2", 1, "b", 7)
	w.noReplace("example 2", 1, "c", 7, api.ErrNone)
}

// Example 3: sixteen names, a seventeenth, and the lowest cell behind fifteen that are taken away.
func TestExampleThree(t *testing.T) {
	for keep := range 16 {
		w := fresh(t, 128)
		for i := range 16 {
			w.add("example 3", 1, name(i), 3, api.OK)
		}
		w.blocks("example 3", 1, 1)
		w.add("example 3", 1, name(16), 3, api.OK)
		w.blocks("example 3", 1, 2)
		for i := range 16 {
			if i != keep {
				w.remove("example 3", 1, name(i), 3)
			}
		}
		w.list("example 3", 1, cell(keep, name(keep), 3), cell(16, name(16), 3))
		w.blocks("example 3", 1, 2)
		w.add("example 3", 1, "z", 4, api.OK)
		low := 0
		if keep == 0 {
			low = 1
		}
		w.list("example 3", 1, cell(keep, name(keep), 3), cell(16, name(16), 3), cell(low, "z", 4))
	}
}

// Example 4: what is no name, no inode, no directory.
func TestExampleFour(t *testing.T) {
	w := fresh(t, 128)
	w.add("example 4", 1, "b", 3, api.OK)
	w.still("example 4", func() {
		for _, n := range []int{1, 99} {
			for _, s := range []string{"", ".", "..", "a/b", rep("x", 28)} {
				w.noFind("example 4", n, s, api.ErrInval)
			}
			w.add("example 4", n, "..", 2, api.ErrInval)
		}
		w.add("example 4", 1, "..", 99, api.ErrInval)
		w.add("example 4", 1, "c", 0, api.ErrInode)
		w.add("example 4", 1, "c", 16, api.ErrInode)
		w.noReplace("example 4", 1, "b", -1, api.ErrInode)
		w.noFind("example 4", 99, "a", api.ErrInode)
		w.noFind("example 4: a free one", 5, "a", api.ErrInode)
		w.noFind("example 4: a file", 3, "a", api.ErrNotDir)
	})
}

// Example 5: no block free; one free where a table is wanted with it.
func TestExampleFive(t *testing.T) {
	w := on(t, 128, none, map[int]api.Inode{1: direct(101)}, map[int][]byte{101: full(0)})
	w.still("example 5", func() { w.add("example 5", 1, "c", 2, api.ErrSpace) })

	blocks := map[int][]byte{}
	for k := range 10 {
		blocks[101+k] = full(k)
	}
	x := direct(101, 102, 103, 104, 105, 106, 107, 108, 109, 110)
	w = on(t, 128, only(120), map[int]api.Inode{1: x}, blocks)
	w.list("example 5", 1, row(0, 160)...)
	w.still("example 5", func() { w.add("example 5", 1, "c", 2, api.ErrSpace) })
	w.free("example 5", 1)
}

// Example 6: a free cell that isn't zero.
func TestExampleSix(t *testing.T) {
	b := make([]byte, size)
	b[40] = 1
	w := on(t, 128, all, map[int]api.Inode{1: direct(101)}, map[int][]byte{101: b})
	w.refused("example 6", 1, "a", 2, api.ErrCell)
}
