package bmap_test

import (
	"fmt"
	"slices"
	"testing"

	"bole/api"
	"bole/space"
)

// hole is a way that ends in one: which record and tables there are, and what is to be taken for an index.
type hole struct {
	what   string
	x      api.Inode
	k      int
	blocks map[int][]byte // tables, from 110 on
	takes  int            // how many blocks
	puts   int            // the table that tells the first of them; 0: the record does
}

// holes are ways that end at the record, in the one table, in the table of tables and in a table of it.
func holes() []hole {
	return []hole{
		{"Direct", empty, 0, nil, 1, 0},
		{"Direct", one(8, 120), 9, nil, 1, 0},
		{"no One", one(9, 120), 10, nil, 2, 0},
		{"no One", one(11, 120), 137, nil, 2, 0},
		{"in One", one(10, 110), 10, map[int][]byte{110: holding(map[int]int{1: 120})}, 1, 110},
		{"in One", one(10, 110), 137, map[int][]byte{110: holding(map[int]int{126: 120})}, 1, 110},
		{"in an empty One", one(10, 110), 50, map[int][]byte{110: make([]byte, size)}, 1, 110},
		{"no Two", one(10, 120), 138, nil, 3, 0},
		{"no Two", empty, 265, nil, 3, 0},
		{"no Two", empty, 266, nil, 3, 0},
		{"no Two", empty, last, nil, 3, 0},
		{"in Two", one(11, 110), 138, map[int][]byte{110: holding(map[int]int{1: 120, 127: 121})}, 2, 110},
		{"in Two", one(11, 110), 266, map[int][]byte{110: holding(map[int]int{0: 120, 2: 121})}, 2, 110},
		{"in Two", one(11, 110), last, map[int][]byte{110: holding(map[int]int{0: 120, 126: 121})}, 2, 110},
		{"in an empty Two", one(11, 110), 300, map[int][]byte{110: make([]byte, size)}, 2, 110},
		{"in a table of Two", one(11, 110), 138, map[int][]byte{110: holding(map[int]int{0: 111}), 111: holding(map[int]int{1: 120})}, 1, 111},
		{"in a table of Two", one(11, 110), 265, map[int][]byte{110: holding(map[int]int{0: 111}), 111: holding(map[int]int{126: 120})}, 1, 111},
		{"in a table of Two", one(11, 110), last, map[int][]byte{110: holding(map[int]int{0: 112, 127: 111}), 111: holding(map[int]int{0: 120})}, 1, 111},
	}
}

// places are where the numbers on the way to an index stand: in the record, then in tables.
func places(k int) []int {
	switch {
	case k < 10:
		return []int{k}
	case k < 138:
		return []int{10, k - 10}
	}
	return []int{11, (k - 138) / 128, (k - 138) % 128}
}

// with is a table's bytes with one number more.
func with(b []byte, at, n int) []byte {
	c := slices.Clone(b)
	copy(c[4*at:], []byte{byte(n), byte(n >> 8), byte(n >> 16), byte(n >> 24)})
	return c
}

// wantTaken holds that the blocks of free are what Add takes for a hole, in their order, and what is put.
func (w *world) wantTaken(what string, h hole, free []int) {
	w.t.Helper()
	y := w.add(what, h.x, h.k, free[h.takes-1])
	way := places(h.k)
	at := way[len(way)-h.takes:]
	nums := append([]int{98}, free[:h.takes]...)
	x := h.x
	if h.puts == 0 {
		x = withOne(x, at[0], free[0])
	} else {
		nums = append(nums, h.puts)
		w.reads(what, h.puts, with(h.blocks[h.puts], at[0], free[0]))
	}
	if y != x {
		w.t.Errorf("%s: the record is %v, want %v", what, y, x)
	}
	for i := 1; i < h.takes; i++ {
		w.reads(what+": a table that was taken", free[i-1], holding(map[int]int{at[i]: free[i]}))
	}
	w.reads(what+": the block", free[h.takes-1], make([]byte, size))
	w.written(what, nums...)
	w.find(what, y, h.k, free[h.takes-1])
	w.still(what+": again", func() {
		if z := w.add(what+": again", y, h.k, free[h.takes-1]); z != y {
			w.t.Errorf("%s: again: %v", what, z)
		}
	})
}

// P10.2, P10.6, D5: one, two and three blocks taken, from the lowest on, each as it is wanted; with as many free, with more, with less.
func TestTaken(t *testing.T) {
	for _, h := range holes() {
		for count := range 5 {
			free := []int{102, 104, 125, 127}[:count]
			what := fmt.Sprintf("P10.2: %s, %d, %d free", h.what, h.k, count)
			w := begun(t, 128, only(free...), h.blocks)
			w.find(what, h.x, h.k, 0)
			if count < h.takes {
				w.still(what, func() { w.noAdd(what, h.x, h.k, api.ErrSpace) })
				w.free(what, count)
				continue
			}
			w.wantTaken(what, h, free)
			w.free(what, count-h.takes)
		}
	}
}

// P10.2, P10.6: transactions with room for all that is put, and for less; the bitmap's block, the table and what is taken being put already or not.
func TestRoomOfTheTransaction(t *testing.T) {
	for _, h := range holes() {
		free := []int{112, 113, 114}
		puts := append([]int{98}, free[:h.takes]...)
		if h.puts != 0 {
			puts = append(puts, h.puts)
		}
		for known := range 1 << len(puts) {
			for room := range 6 {
				w := begun(t, 300, only(free...), h.blocks)
				need := len(puts)
				for i, n := range puts {
					if known>>i&1 == 1 {
						w.keep(n)
						need--
					}
				}
				for i := 299; len(w.x.Written()) < 96-room; i-- {
					w.keep(i)
				}
				what := fmt.Sprintf("%s, %d, put %05b, room for %d", h.what, h.k, known, room)
				if room < need {
					w.still("P10.2: "+what, func() { w.noAdd("P10.2: "+what, h.x, h.k, api.ErrTooBig) })
					w.free("P10.2: "+what, 3)
					continue
				}
				before := w.x.Written()
				w.add("P10.2: "+what, h.x, h.k, free[h.takes-1])
				after := append(before, puts...)
				slices.Sort(after)
				w.written("P10.6: "+what, slices.Compact(after)...)
			}
		}
	}
}

// P10.2: of a missing block and missing room the one that is met first is told: a number is written at once, ahead of the next Take.
func TestSpaceAndRoom(t *testing.T) {
	blocks := map[int][]byte{110: make([]byte, size)}
	stuff := func(free func(i int) bool, room int) *world {
		w := begun(t, 300, free, blocks)
		for i := 299; len(w.x.Written()) < 96-room; i-- {
			w.keep(i)
		}
		return w
	}
	w := stuff(only(120), 2)
	w.still("P10.2", func() {
		w.noAdd("P10.2: no room for the table of tables, no second block", one(11, 110), 138, api.ErrTooBig)
	})
	w = stuff(only(120), 3)
	w.still("P10.2", func() { w.noAdd("P10.2: room for it, no second block", one(11, 110), 138, api.ErrSpace) })
	w = stuff(only(120), 2)
	w.still("P10.2", func() {
		w.noAdd("P10.2: no second block, of a record without a table", empty, 138, api.ErrSpace)
	})
	w = stuff(only(120, 121), 2)
	w.still("P10.2", func() {
		w.noAdd("P10.2: no room for the second, no third", empty, 138, api.ErrTooBig)
	})
	w = stuff(none, 0)
	w.still("P10.2", func() { w.noAdd("P10.2: neither", empty, 138, api.ErrSpace) })
	w.still("P10.2", func() { w.noAdd("P10.2: neither", one(11, 110), 138, api.ErrSpace) })
	w = stuff(all, 0)
	w.still("P10.2", func() { w.noAdd("P10.2: no room", empty, 0, api.ErrTooBig) })
}

// P10.2: ErrPointer and ErrDown ahead of ErrSpace on the way, ErrSpace ahead of what lies further on.
func TestErrorsOnTheWay(t *testing.T) {
	w := begun(t, 128, none, map[int][]byte{110: holding(map[int]int{0: 99, 1: 111}), 111: holding(map[int]int{0: 128})})
	x := one(11, 110)
	w.still("P10.2", func() {
		w.noAdd("P10.2: a table's number", x, 138, api.ErrPointer)
		w.noAdd("P10.2: a block's number", x, 266, api.ErrPointer)
		w.noAdd("P10.2: a hole in a table", x, 267, api.ErrSpace)
		w.noAdd("P10.2: a hole in the table of tables", x, 394, api.ErrSpace)
		w.noAdd("P10.2: a hole in the record", x, 10, api.ErrSpace)
	})
	w.keep(110)
	w.d.Crash(nil)
	w.still("P10.2", func() {
		w.noAdd("P10.2: down, a table's number", x, 138, api.ErrPointer)
		w.noAdd("P10.2: down, a table to be read", x, 266, api.ErrDown)
		w.noAdd("P10.2: down, the bitmap", x, 394, api.ErrDown)
		w.noAdd("P10.2: down, the bitmap", x, 0, api.ErrDown)
	})
}

// P10.2: with the power out a block is taken all the same, if all that is read is put.
func TestTakenWithThePowerOut(t *testing.T) {
	for _, h := range holes() {
		w := begun(t, 128, only(125, 126, 127), h.blocks)
		keeps := []int{98}
		for i := range h.blocks {
			keeps = append(keeps, i)
		}
		w.keep(keeps...)
		w.d.Crash(nil)
		w.add("P10.2: down: "+h.what, h.x, h.k, 124+h.takes)
		w.written("P10.2: down: "+h.what, append(keeps, []int{125, 126, 127}[:h.takes]...)...)
	}
}

// P10.2: a table that the bitmap calls free is taken itself: as it was read, with its own number, it is put over the zeros.
func TestTheTableItselfIsTaken(t *testing.T) {
	w := begun(t, 128, only(110, 115), map[int][]byte{110: holding(map[int]int{7: 120})})
	x := one(10, 110)
	if y := w.add("P10.2: One", x, 10, 110); y != x {
		t.Errorf("P10.2: One: %v", y)
	}
	w.reads("P10.2: One", 110, holding(map[int]int{0: 110, 7: 120}))
	w.written("P10.2: One", 98, 110)
	w.add("P10.2: One, the next", x, 11, 115)
	w.reads("P10.2: One, the next", 110, holding(map[int]int{0: 110, 1: 115, 7: 120}))

	// In a table of tables that tells itself the way goes on in it: it is read as it stands then.
	x = one(11, 110)
	w = begun(t, 128, only(110, 115), map[int][]byte{110: holding(map[int]int{7: 120})})
	w.add("P10.2: Two, at its own place", x, 138+128*3+3, 110)
	w.reads("P10.2: Two, at its own place", 110, holding(map[int]int{3: 110, 7: 120}))
	w.free("P10.2: Two, at its own place", 1)
	w = begun(t, 128, only(110, 115), map[int][]byte{110: holding(map[int]int{7: 120})})
	w.add("P10.2: Two, at another number's place", x, 138+128*3+7, 120)
	w.reads("P10.2: Two, at another number's place", 110, holding(map[int]int{3: 110, 7: 120}))
	w = begun(t, 128, only(110, 115), map[int][]byte{110: holding(map[int]int{7: 120})})
	w.add("P10.2: Two, at a hole's place", x, 138+128*3+4, 115)
	w.reads("P10.2: Two, at a hole's place", 110, holding(map[int]int{3: 110, 4: 115, 7: 120}))
	w.written("P10.2: Two, at a hole's place", 98, 110, 115)
	w = begun(t, 128, only(110), map[int][]byte{110: holding(map[int]int{7: 120})})
	w.still("P10.2", func() { w.noAdd("P10.2: Two, at a hole's place, none free", x, 138+128*3+4, api.ErrSpace) })
	w = begun(t, 128, only(110), map[int][]byte{110: holding(map[int]int{7: 99})})
	w.still("P10.2", func() { w.noAdd("P10.2: Two, at a bad number's place", x, 138+128*3+7, api.ErrPointer) })

	// A table of the table of tables.
	w = begun(t, 128, only(111), map[int][]byte{110: holding(map[int]int{0: 111}), 111: holding(map[int]int{1: 120})})
	w.add("P10.2: a table of Two", x, 138, 111)
	w.reads("P10.2: a table of Two", 111, holding(map[int]int{0: 111, 1: 120}))
	w.reads("P10.2: a table of Two", 110, holding(map[int]int{0: 111}))

	// The table of tables is free, and taken as a block of a table of it.
	w = begun(t, 128, only(110), map[int][]byte{110: holding(map[int]int{0: 111}), 111: make([]byte, size)})
	w.add("P10.2: Two as a block", x, 138, 110)
	w.reads("P10.2: Two as a block", 110, make([]byte, size))
	w.reads("P10.2: Two as a block", 111, holding(map[int]int{0: 110}))
}

// P10.2: a table that was put ahead is gone on with as it was put, and a refused Add goes back to the last put.
func TestPutAheadOfIt(t *testing.T) {
	w := begun(t, 128, only(115, 116), map[int][]byte{110: holding(map[int]int{0: 99})})
	x := one(11, 110)
	w.put(110, holding(map[int]int{9: 99}))
	w.put(110, holding(map[int]int{9: 120}))
	w.put(115, alike(99))
	w.add("P10.2", x, 138, 116)
	w.reads("P10.2", 110, holding(map[int]int{0: 115, 9: 120}))
	w.reads("P10.2", 115, holding(map[int]int{0: 116}))
	for range 3 {
		w.still("P10.2", func() { w.noAdd("P10.2: none free", x, 266, api.ErrSpace) })
	}
	if e := space.Give(w.x, w.g, 120); e != api.OK {
		t.Fatalf("Give: %d", e)
	}
	for range 3 {
		w.still("P10.2", func() { w.noAdd("P10.2: one too few", x, 266, api.ErrSpace) })
	}
	w.reads("P10.2: taken back", 110, holding(map[int]int{0: 115, 9: 120}))
}

// P10.2, P10.6: on a disk of more than one bitmap block, each block that is taken may lie in another of them.
func TestTakenAcrossTheBitmap(t *testing.T) {
	w := begun(t, 12289, only(4095, 4096, 12288), nil)
	y := w.add("P10.2", empty, last, 12288)
	if y != one(11, 4095) {
		t.Errorf("P10.2: %v", y)
	}
	w.written("P10.6", 98, 99, 101, 4095, 4096, 12288)
	w.reads("P10.2", 4095, holding(map[int]int{127: 4096}))
	w.reads("P10.2", 4096, holding(map[int]int{127: 12288}))
	w.find("P10.1", y, last, 12288)
	w.all("P10.4", y, [][2]int{{last, 12288}}, []int{4095, 4096})
	w = begun(t, 12289, only(4095, 4096), nil)
	w.still("P10.2", func() { w.noAdd("P10.2", empty, last, api.ErrSpace) })
}
