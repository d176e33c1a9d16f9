package bmap_test

import (
	"fmt"
	"maps"
	"slices"
	"testing"

	"bole/api"
)

// P10.3: files of one block, cut at it, ahead of it and behind it: tables left without a number go with it.
func TestCutOfOneBlock(t *testing.T) {
	for _, k := range edges {
		for _, at := range append([]int{16522}, edges...) {
			what := fmt.Sprintf("P10.3: a block at %d, cut at %d", k, at)
			w, f := thinFile(t, 128, k, none)
			if at > k {
				w.still(what, func() {
					if y := w.cut(what, f.x, at); y != f.x {
						t.Errorf("%s: %v", what, y)
					}
				})
				continue
			}
			if y := w.cut(what, f.x, at); y != empty {
				t.Errorf("%s: %v", what, y)
			}
			w.isFree(what, append(f.tables, 120)...)
			w.free(what, 1+len(f.tables))
			w.written(what, 98)
		}
	}
}

// P10.3: every cut of the direct numbers.
func TestCutOfDirect(t *testing.T) {
	for k := range 12 {
		x := empty
		for i := range x.Direct {
			x.Direct[i] = 101 + 2*i
		}
		x.Direct[4] = 0
		w := begun(t, 128, none, nil)
		y := w.cut("P10.3", x, k)
		var gone []int
		for i := k; i < 10; i++ {
			if x.Direct[i] != 0 {
				gone = append(gone, x.Direct[i])
			}
			x.Direct[i] = 0
		}
		if y != x {
			t.Errorf("P10.3: Cut(%d): %v, want %v", k, y, x)
		}
		w.isFree("P10.3", gone...)
		w.free("P10.3", len(gone))
		if len(gone) > 0 {
			w.written("P10.3", 98)
		} else {
			w.written("P10.3: nothing")
		}
	}
}

// cutNumbers is what is left of a table's numbers from a place on, and what is gone.
func cutNumbers(nums map[int]int, from int) (map[int]int, []int) {
	left := maps.Clone(nums)
	var gone []int
	for at, n := range nums {
		if at >= from {
			delete(left, at)
			gone = append(gone, n)
		}
	}
	return left, gone
}

// P10.3, P10.6: a table with some numbers, cut at each of its places.
func TestCutOfOneTable(t *testing.T) {
	nums := map[int]int{3: 120, 5: 103, 6: 121, 90: 127, 126: 101}
	for k := range 140 {
		what := fmt.Sprintf("P10.3: Cut(%d)", k)
		w := begun(t, 128, none, map[int][]byte{110: holding(nums)})
		y := w.cut(what, one(10, 110), k)
		left, gone := cutNumbers(nums, k-10)
		if k >= 138 {
			left, gone = nums, nil
		}
		switch {
		case len(left) == 0:
			if y != empty {
				t.Errorf("%s: %v", what, y)
			}
			gone = append(gone, 110)
			w.written(what, 98)
			w.reads(what+": the table's bytes stay", 110, holding(nums))
		case len(gone) == 0:
			w.written(what)
		default:
			w.written(what, 98, 110)
			w.reads(what, 110, holding(left))
		}
		if len(left) > 0 && y != one(10, 110) {
			t.Errorf("%s: %v", what, y)
		}
		w.isFree(what, gone...)
		w.free(what, len(gone))
	}
}

// deep is a table of tables with three tables, and what each index has.
func deep(t *testing.T) (*world, map[int]map[int]int) {
	t.Helper()
	inner := map[int]map[int]int{2: {0: 120, 127: 121}, 3: {5: 122}, 127: {0: 123, 64: 124, 127: 125}}
	return begun(t, 128, none, map[int][]byte{
		110: holding(map[int]int{2: 111, 3: 112, 127: 113}),
		111: holding(inner[2]),
		112: holding(inner[3]),
		113: holding(inner[127]),
	}), inner
}

// P10.3, P10.6: a table of tables, cut at all places of note: which tables are put, given back, left as they are.
func TestCutOfTheTableOfTables(t *testing.T) {
	tables := map[int]int{2: 111, 3: 112, 127: 113}
	at := func(table, place int) int { return 138 + 128*table + place }
	for _, k := range []int{0, 9, 10, 137, 138, at(1, 127), at(2, 0), at(2, 1), at(2, 127), at(3, 0), at(3, 5), at(3, 6), at(3, 127), at(4, 0), at(126, 127), at(127, 0), at(127, 1), at(127, 64), at(127, 65), at(127, 127), 16522} {
		what := fmt.Sprintf("P10.3: Cut(%d)", k)
		w, inner := deep(t)
		y := w.cut(what, one(11, 110), k)
		left := map[int]int{}
		var gone, puts []int
		for table, n := range tables {
			stay, away := cutNumbers(inner[table], k-at(table, 0))
			gone = append(gone, away...)
			if len(stay) == 0 {
				gone = append(gone, n)
				continue
			}
			left[table] = n
			w.reads(what, n, holding(stay))
			if len(away) > 0 {
				puts = append(puts, n)
			}
		}
		switch {
		case len(left) == 0:
			gone = append(gone, 110)
			if y != empty {
				t.Errorf("%s: %v", what, y)
			}
		case y != one(11, 110):
			t.Errorf("%s: %v", what, y)
		case len(left) < 3:
			puts = append(puts, 110)
			w.reads(what, 110, holding(left))
		}
		if len(gone) > 0 {
			puts = append(puts, 98)
		}
		w.written(what, puts...)
		w.isFree(what, gone...)
		w.free(what, len(gone))
	}
}

// P10.3: tables that were empty ahead of the cut: given back where it comes to them.
func TestCutOfEmptyTables(t *testing.T) {
	zeros := make([]byte, size)
	for _, k := range []int{0, 9, 10, 137, 138} {
		w := begun(t, 128, none, map[int][]byte{110: zeros})
		y := w.cut("P10.3: One", one(10, 110), k)
		if k == 138 {
			w.written("P10.3: One, behind it")
			continue
		}
		if y != empty {
			t.Errorf("P10.3: One: Cut(%d): %v", k, y)
		}
		w.isFree("P10.3: One", 110)
		w.written("P10.3: One", 98)
	}
	for _, k := range []int{0, 10, 138, 5000, last, 16522} {
		w := begun(t, 128, none, map[int][]byte{110: zeros})
		y := w.cut("P10.3: Two", one(11, 110), k)
		if k == 16522 {
			w.written("P10.3: Two, behind it")
			continue
		}
		if y != empty {
			t.Errorf("P10.3: Two: Cut(%d): %v", k, y)
		}
		w.isFree("P10.3: Two", 110)
		w.written("P10.3: Two", 98)
	}
	two := map[int][]byte{110: holding(map[int]int{1: 111, 4: 112}), 111: holding(map[int]int{9: 120}), 112: zeros}
	for k, puts := range map[int][]int{138 + 128*4 + 127: {98, 110}, 138 + 128*4: {98, 110}, 138 + 128*1 + 10: {98, 110}, 138 + 128*5: nil, 138 + 128*1 + 9: {98}} {
		w := begun(t, 128, none, two)
		w.cut("P10.3: in Two", one(11, 110), k)
		w.written("P10.3: in Two", puts...)
		if len(puts) > 0 {
			w.isFree("P10.3: in Two", 112)
		}
		if len(puts) == 2 {
			w.reads("P10.3: in Two", 110, holding(map[int]int{1: 111}))
			w.free("P10.3: in Two", 1)
		}
	}
}

// P10.3: numbers ahead of the cut are not looked at, but a table that has them stays.
func TestNumbersAheadOfTheCut(t *testing.T) {
	w := begun(t, 128, none, map[int][]byte{110: holding(map[int]int{4: 99, 5: 120})})
	y := w.cut("P10.3: One", one(10, 110), 15)
	if y != one(10, 110) {
		t.Errorf("P10.3: One: %v", y)
	}
	w.reads("P10.3: One", 110, holding(map[int]int{4: 99}))
	w.written("P10.3: One", 98, 110)

	w = begun(t, 128, none, map[int][]byte{110: holding(map[int]int{0: 1, 1: 111}), 111: holding(map[int]int{4: 1 << 31, 5: 120})})
	y = w.cut("P10.3: Two", one(11, 110), 138+128+5)
	if y != one(11, 110) {
		t.Errorf("P10.3: Two: %v", y)
	}
	w.reads("P10.3: Two", 111, holding(map[int]int{4: 1 << 31}))
	w.written("P10.3: Two", 98, 111)
	w.noCut("P10.3: Two", y, 138+128+4, api.ErrPointer)
	w.put(111, holding(map[int]int{5: 121}))
	w.cut("P10.3: Two", y, 138+128)
	w.reads("P10.3: Two", 110, holding(map[int]int{0: 1}))
	w.noCut("P10.3: Two", y, 138+127, api.ErrPointer)
}

// P10.3, W7: one block at two places, and tables that tell themselves.
func TestBlocksTwice(t *testing.T) {
	both := func(at, other int) api.Inode { return withOne(one(at, 110), other, 110) }
	for _, x := range []api.Inode{both(0, 1), both(8, 9)} {
		w := begun(t, 128, none, nil)
		w.still("P10.3: two direct ones", func() { w.noCut("P10.3: two direct ones", x, 0, api.ErrFree) })
	}
	w := begun(t, 128, none, nil)
	if y := w.cut("P10.3: behind the first of them", both(0, 1), 1); y != one(0, 110) {
		t.Errorf("P10.3: behind the first of them: %v", y)
	}

	// A table that tells itself alone is gone when it is to be given back; with a number ahead of the cut it is put, though it is free.
	w = begun(t, 128, none, map[int][]byte{110: holding(map[int]int{5: 110})})
	w.still("P10.3: itself", func() { w.noCut("P10.3: itself", one(10, 110), 0, api.ErrFree) })
	w = begun(t, 128, none, map[int][]byte{110: holding(map[int]int{4: 120, 5: 110})})
	w.cut("P10.3: itself, not alone", one(10, 110), 15)
	w.isFree("P10.3: itself, not alone", 110)
	w.free("P10.3: itself, not alone", 1)
	w.reads("P10.3: itself, not alone", 110, holding(map[int]int{4: 120}))

	// A table of tables that tells itself is read again as a table of it.
	w = begun(t, 128, none, map[int][]byte{110: holding(map[int]int{5: 110})})
	w.still("P10.3: Two itself", func() { w.noCut("P10.3: Two itself", one(11, 110), 0, api.ErrFree) })
	w = begun(t, 128, none, map[int][]byte{110: holding(map[int]int{0: 120, 5: 110})})
	k := 138 + 128*5 + 5
	w.cut("P10.3: Two itself, not alone", one(11, 110), k)
	w.reads("P10.3: Two itself, not alone", 110, holding(map[int]int{0: 120}))
	w.isFree("P10.3: Two itself, not alone", 110)

	// One table at two places of the table of tables: the second time it is read as it was put the first time.
	w = begun(t, 128, none, map[int][]byte{110: holding(map[int]int{1: 111, 2: 111}), 111: holding(map[int]int{0: 120, 7: 121})})
	w.still("P10.3: a table twice", func() { w.noCut("P10.3: a table twice", one(11, 110), 138+128, api.ErrFree) })
	w = begun(t, 128, none, map[int][]byte{110: holding(map[int]int{1: 111, 2: 111}), 111: holding(map[int]int{0: 120, 7: 121})})
	y := w.cut("P10.3: a table twice, in part", one(11, 110), 138+128+7)
	if y != one(11, 110) {
		t.Errorf("P10.3: a table twice, in part: %v", y)
	}
	w.reads("P10.3: a table twice, in part", 110, holding(map[int]int{1: 111}))
	w.isFree("P10.3: a table twice, in part", 120, 121, 111)
	w.free("P10.3: a table twice, in part", 3)
	w.reads("P10.3: a table twice, in part: put the first time", 111, holding(map[int]int{0: 120}))

	// One and Two being one table.
	w = begun(t, 128, none, map[int][]byte{110: holding(map[int]int{0: 120}), 120: holding(map[int]int{3: 121})})
	x := withOne(one(10, 110), 11, 110)
	w.still("P10.3: One and Two", func() { w.noCut("P10.3: One and Two", x, 0, api.ErrFree) })
}

// P10.3, P10.6: transactions with room for all that Cut puts, and for less; each of it being put already or not.
func TestRoomForCut(t *testing.T) {
	blocks := map[int][]byte{
		110: holding(map[int]int{0: 120, 1: 121}),
		111: holding(map[int]int{0: 112, 1: 113}), 112: holding(map[int]int{0: 122, 1: 123}), 113: holding(map[int]int{0: 124}),
	}
	x := withOne(withOne(one(3, 119), 10, 110), 11, 111)
	for _, c := range []struct {
		k    int
		puts []int
		free int
	}{
		{16522, nil, 0},
		{138 + 129, nil, 0},
		{138 + 128, []int{98, 111}, 2},
		{139, []int{98, 111, 112}, 3},
		{138, []int{98}, 6},
		{11, []int{98, 110}, 7},
		{4, []int{98}, 9},
		{0, []int{98}, 10},
	} {
		for known := range 1 << len(c.puts) {
			for room := range 4 {
				w := begun(t, 300, none, blocks)
				need := len(c.puts)
				for i, n := range c.puts {
					if known>>i&1 == 1 {
						w.keep(n)
						need--
					}
				}
				for i := 299; len(w.x.Written()) < 96-room; i-- {
					w.keep(i)
				}
				what := fmt.Sprintf("P10.3: Cut(%d), put %03b, room for %d", c.k, known, room)
				if room < need {
					w.still(what, func() { w.noCut(what, x, c.k, api.ErrTooBig) })
					w.free(what, 0)
					continue
				}
				puts := append(w.x.Written(), c.puts...)
				slices.Sort(puts)
				w.cut(what, x, c.k)
				w.written(what, slices.Compact(puts)...)
				w.free(what, c.free)
			}
		}
	}
}

// P10.3: blocks in all parts of a bitmap of several blocks; the refusal of the last one takes all of them back.
func TestCutAcrossTheBitmap(t *testing.T) {
	nums := []int{4095, 4096, 8192, 12288}
	x := one(0, 4095)
	x.One, x.Two = 4096, 8192
	blocks := map[int][]byte{4096: holding(map[int]int{9: 300}), 8192: holding(map[int]int{9: 12288}), 12288: holding(map[int]int{9: 12287})}
	w := begun(t, 12289, none, blocks)
	if y := w.cut("P10.3", x, 0); y != empty {
		t.Errorf("P10.3: %v", y)
	}
	w.written("P10.3", 98, 99, 100, 101)
	w.isFree("P10.3", append(nums, 300, 12287)...)
	w.free("P10.3", 6)
	w = begun(t, 12289, only(8192), blocks)
	w.still("P10.3", func() { w.noCut("P10.3", x, 0, api.ErrFree) })
}
