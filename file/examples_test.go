package file_test

import (
	"math"
	"strings"
	"testing"

	"bole/api"
)

// Examples 1 and 2: bytes behind a hole, a second block, cut and lengthened.
func TestExamplesOneAndTwo(t *testing.T) {
	w := fresh(t, 128)
	w.write("example 1", 5, 3, "abc", api.OK)
	w.size("example 1", 5, 6)
	w.reads("example 1", 5, 0, 100, "\x00\x00\x00abc")
	w.reads("example 1", 5, 4, 1, "b")
	w.reads("example 1", 5, 6, 1, "")
	w.blocks("example 1", 5, 1)
	w.written("example 1", 98, 99, 101)

	w.write("example 2", 5, 600, "x", api.OK)
	w.size("example 2", 5, 601)
	w.reads("example 2", 5, 500, 200, zeros(100)+"x")
	w.blocks("example 2", 5, 2)
	w.cut("example 2", 5, 4, api.OK)
	w.size("example 2", 5, 4)
	w.blocks("example 2", 5, 1)
	w.cut("example 2", 5, 10, api.OK)
	w.size("example 2", 5, 10)
	w.reads("example 2", 5, 0, 10, "\x00\x00\x00\x61\x00\x00\x00\x00\x00\x00")
	w.still("example 2", func() { w.cut("example 2: the same size", 5, 10, api.OK) })
}

// Example 3: a table; a table of tables with a table.
func TestExampleThree(t *testing.T) {
	w := fresh(t, 128)
	w.write("example 3", 5, 5120, "y", api.OK)
	w.blocks("example 3", 5, 2)
	w.free("example 3", 25)
	w.write("example 3", 5, 70656, "z", api.OK)
	w.blocks("example 3", 5, 5)
	w.free("example 3", 22)
}

// Example 4: what is too big, or no number, or no inode.
func TestExampleFour(t *testing.T) {
	w := fresh(t, 128)
	w.still("example 4", func() {
		w.write("example 4", 5, 8459263, "ab", api.ErrBig)
		w.write("example 4", 5, math.MaxInt, "a", api.ErrBig)
		w.cut("example 4", 5, 8459265, api.ErrBig)
		w.write("example 4", 5, 8459264, "", api.OK)
		for _, n := range []int{5, 99} {
			w.write("example 4", n, -1, "abc", api.ErrInval)
			w.noRead("example 4", n, -1, 0, api.ErrInval)
			w.noRead("example 4", n, 0, -1, api.ErrInval)
			w.cut("example 4", n, -1, api.ErrInval)
		}
		w.noRead("example 4", 99, 0, 0, api.ErrInode)
		w.noRead("example 4: a free one", 4, 0, 0, api.ErrInode)
	})
	w.cut("example 4", 5, 8459264, api.OK)
	w.size("example 4", 5, 8459264)
}

// Example 5: a block too many, and just as many as are free.
func TestExampleFive(t *testing.T) {
	w := fresh(t, 128)
	w.still("example 5", func() { w.write("example 5", 5, 0, strings.Repeat("a", 13824), api.ErrSpace) })
	w.free("example 5", 27)
	w.write("example 5", 5, 0, strings.Repeat("a", 13312), api.OK)
	w.free("example 5", 0)
}

// Example 6: a directory and a symbolic link.
func TestExampleSix(t *testing.T) {
	w := on(t, 128, all, map[int]api.Inode{1: sized(aDir, 512), 2: aLink}, nil)
	w.write("example 6", 1, 512, text(512, 1), api.OK)
	w.size("example 6", 1, 1024)
	w.still("example 6", func() {
		w.write("example 6", 1, 1024, "a", api.ErrRecord)
		w.cut("example 6", 2, 0, api.ErrRecord)
	})
}
