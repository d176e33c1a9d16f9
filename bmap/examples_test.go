package bmap_test

import (
	"testing"

	"bole/api"
	"bole/bmap"
)

// Examples 1 to 3: indices, ways through tables, all of them, and cut again.
func TestExamplesOneToThree(t *testing.T) {
	w := begun(t, 128, all, nil)
	x := api.Inode{}
	w.find("example 1", x, 0, 0)
	w.noFind("example 1", x, -1, api.ErrFar)
	w.noFind("example 1", x, 16522, api.ErrFar)
	x = w.add("example 1", x, 0, 101)
	if x != one101() {
		t.Errorf("example 1: %v", x)
	}
	w.written("example 1", 98, 101)
	w.still("example 1", func() {
		if y := w.add("example 1: again", x, 0, 101); y != x {
			t.Errorf("example 1: again: %v", y)
		}
	})

	x = w.add("example 2", x, 10, 103)
	if x.One != 102 {
		t.Errorf("example 2: One %d", x.One)
	}
	x = w.add("example 2", x, 138, 106)
	if x.Two != 104 {
		t.Errorf("example 2: Two %d", x.Two)
	}
	w.reads("example 2", 104, holding(map[int]int{0: 105}))
	x = w.add("example 2", x, 137, 107)
	w.all("example 2", x, [][2]int{{0, 101}, {10, 103}, {137, 107}, {138, 106}}, []int{102, 104, 105})
	w.free("example 2", 20)

	x = w.cut("example 3", x, 138)
	w.isFree("example 3", 106, 105, 104)
	if x.Two != 0 {
		t.Errorf("example 3: Two %d", x.Two)
	}
	x = w.cut("example 3", x, 11)
	w.isFree("example 3", 107)
	if x.One != 102 {
		t.Errorf("example 3: One %d", x.One)
	}
	x = w.cut("example 3", x, 10)
	w.isFree("example 3", 103, 102)
	if x != one101() {
		t.Errorf("example 3: %v", x)
	}
	w.still("example 3", func() {
		if y := w.cut("example 3", x, 16522); y != x {
			t.Errorf("example 3: Cut(16522): %v", y)
		}
		w.noCut("example 3", x, 16523, api.ErrFar)
	})
	w.free("example 3", 26)
}

func one101() api.Inode {
	x := api.Inode{}
	x.Direct[0] = 101
	return x
}

// Example 4: numbers that are no data blocks'.
func TestExampleFour(t *testing.T) {
	for _, n := range []int{100, 128, -1} {
		w := begun(t, 128, all, nil)
		x := api.Inode{}
		x.Direct[3] = n
		w.still("example 4", func() {
			w.noFind("example 4", x, 3, api.ErrPointer)
			w.noAdd("example 4", x, 3, api.ErrPointer)
			w.noCut("example 4", x, 2, api.ErrPointer)
			w.noAll("example 4", x, api.ErrPointer)
			if y := w.cut("example 4", x, 4); y != x {
				t.Errorf("example 4: %v", y)
			}
		})
	}
	w := begun(t, 128, all, map[int][]byte{101: holding(map[int]int{0: 7})})
	w.noFind("example 4", api.Inode{One: 101}, 10, api.ErrPointer)
	w.find("example 4", api.Inode{One: 101}, 11, 0)
}

// Example 5: a table without a number.
func TestExampleFive(t *testing.T) {
	w := begun(t, 128, from(103), map[int][]byte{102: make([]byte, size)})
	x := api.Inode{One: 102}
	w.still("example 5", func() {
		if y := w.cut("example 5", x, 138); y != x {
			t.Errorf("example 5: Cut(138): %v", y)
		}
	})
	if y := w.cut("example 5", x, 137); y != (api.Inode{}) {
		t.Errorf("example 5: Cut(137): %v", y)
	}
	w.isFree("example 5", 102)
}

// Example 6: one block at two indices.
func TestExampleSix(t *testing.T) {
	w := begun(t, 128, from(102), nil)
	x := api.Inode{}
	x.Direct[0], x.Direct[1] = 101, 101
	w.still("example 6", func() { w.noCut("example 6", x, 0, api.ErrFree) })
	w.free("example 6", 26)
}

// Example 7: one block too few.
func TestExampleSeven(t *testing.T) {
	w := begun(t, 128, from(126), nil)
	w.still("example 7", func() { w.noAdd("example 7", api.Inode{}, 138, api.ErrSpace) })
	w.free("example 7", 2)
	if n, e := bmap.Find(w.x, w.g, api.Inode{}, 138); n != 0 || e != api.OK {
		t.Errorf("example 7: Find: %d, %d", n, e)
	}
}
