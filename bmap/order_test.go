package bmap_test

import (
	"slices"
	"strings"
	"testing"

	"bole/api"
)

// flawed is a file in which things are wrong: a number is no data block's (look), a table can't be read (read), a block is free already (give).
type flawed struct {
	x     api.Inode
	nums  map[int]map[int]int
	free  []int
	blind []int
}

// spot is where a number stands: in a table, or in the record (0).
type spot struct{ table, at, number int }

var spots = map[string]spot{
	"Direct 1": {0, 1, 115}, "Direct 8": {0, 8, 116},
	"One": {0, 10, 110}, "One 0": {110, 0, 117}, "One 90": {110, 90, 118},
	"Two":   {0, 11, 111},
	"Two 0": {111, 0, 112}, "Two 0 5": {112, 5, 119}, "Two 0 127": {112, 127, 120},
	"Two 9": {111, 9, 113}, "Two 9 0": {113, 0, 121},
}

// sound is the file with nothing wrong.
func sound() *flawed {
	f := &flawed{nums: map[int]map[int]int{110: {}, 111: {}, 112: {}, 113: {}}}
	for where := range spots {
		f.set(where, spots[where].number)
	}
	return f
}

func (f *flawed) set(where string, n int) {
	s := spots[where]
	if s.table == 0 {
		f.x = withOne(f.x, s.at, n)
	} else {
		f.nums[s.table][s.at] = n
	}
}

// spoil makes a thing wrong, and tells the error of it.
func (f *flawed) spoil(fault string) api.Errno {
	word, where, _ := strings.Cut(fault, " ")
	switch word {
	case "give":
		f.free = append(f.free, spots[where].number)
		return api.ErrFree
	case "read":
		f.blind = append(f.blind, spots[where].number)
		return api.ErrDown
	}
	f.set(where, 99)
	return api.ErrPointer
}

// laid lays it on a disk whose power is out, with all put that is to be read.
func (f *flawed) laid(t *testing.T) *world {
	t.Helper()
	blocks := map[int][]byte{}
	for n, nums := range f.nums {
		blocks[n] = holding(nums)
	}
	w := begun(t, 128, only(f.free...), blocks)
	for _, n := range []int{98, 110, 111, 112, 113} {
		if !slices.Contains(f.blind, n) {
			w.keep(n)
		}
	}
	w.d.Crash(nil)
	return w
}

// firstTold makes each two of some faults, and each alone, and asks for the error of the one ahead.
func firstTold(t *testing.T, faults []string, ask func(w *world, what string, x api.Inode, code api.Errno)) {
	t.Helper()
	for i, a := range faults {
		for _, b := range faults[i:] {
			f := sound()
			code := f.spoil(a)
			f.spoil(b)
			w := f.laid(t)
			w.still(a+" and "+b, func() { ask(w, a+" and "+b, f.x, code) })
		}
	}
}

// P10.3: the order in which Cut looks at numbers, reads tables and gives back; a refused one has changed nothing.
func TestOrderOfCut(t *testing.T) {
	faults := []string{
		"look Direct 1", "give Direct 1", "look Direct 8", "give Direct 8",
		"look One", "read One", "look One 0", "give One 0", "look One 90", "give One 90", "give One",
		"look Two", "read Two",
		"look Two 0", "read Two 0", "look Two 0 5", "give Two 0 5", "look Two 0 127", "give Two 0 127", "give Two 0",
		"look Two 9", "read Two 9", "look Two 9 0", "give Two 9 0", "give Two 9",
		"give Two",
	}
	firstTold(t, faults, func(w *world, what string, x api.Inode, code api.Errno) {
		w.noCut("P10.3: "+what, x, 0, code)
	})
	f := sound()
	if y := f.laid(t).cut("P10.3: nothing wrong", f.x, 0); y != (api.Inode{}) {
		t.Errorf("P10.3: nothing wrong: %v", y)
	}
}

// P10.4: the order in which All looks at numbers and reads tables; that a block is free is nothing to it.
func TestOrderOfAll(t *testing.T) {
	faults := []string{
		"look Direct 1", "look Direct 8",
		"look One", "read One", "look One 0", "look One 90",
		"look Two", "read Two",
		"look Two 0", "read Two 0", "look Two 0 5", "look Two 0 127",
		"look Two 9", "read Two 9", "look Two 9 0",
	}
	firstTold(t, faults, func(w *world, what string, x api.Inode, code api.Errno) {
		w.noAll("P10.4: "+what, x, code)
	})
	f := sound()
	for where := range spots {
		f.spoil("give " + where)
	}
	blocks := [][2]int{{1, 115}, {8, 116}, {10, 117}, {100, 118}, {143, 119}, {265, 120}, {1290, 121}}
	f.laid(t).all("P10.4: all of it free", f.x, blocks, []int{110, 111, 112, 113})
}
