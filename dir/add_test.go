package dir_test

import (
	"fmt"
	"math/rand"
	"slices"
	"testing"

	"bole/api"
	"bole/dir"
)

// P15.2: names that may be come into cells as they are, and are found as they are.
func TestNames(t *testing.T) {
	w := fresh(t, 128)
	for i, s := range names() {
		w.noFind(s, 1, s, api.ErrNone)
		w.add(s, 1, s, 1+i%15, api.OK)
		w.find(s, 1, s, 1+i%15)
		w.add(s, 1, s, 1+i%15, api.ErrExist)
	}
	l := names()
	for k := range 3 {
		var cells []api.Entry
		for i := 16 * k; i < min(16*k+16, len(l)); i++ {
			cells = append(cells, cell(i-16*k, l[i], 1+i%15))
		}
		w.holds("all names", 101+k, blockOf(cells...))
	}
	for i, s := range l {
		w.find(s, 1, s, 1+i%15)
		w.replace(s, 1, s, 3, 1+i%15)
		w.remove(s, 1, s, 3)
		w.noFind(s, 1, s, api.ErrNone)
	}
	w.list("none is left", 1)
}

// P15.2: the one free cell of three blocks, wherever it is; its block is put, and nothing else.
func TestTheFreeCell(t *testing.T) {
	for place := range 48 {
		w := fresh(t, 128)
		l := row(0, 48)
		w.build(1, 3, slices.Delete(slices.Clone(l), place, place+1)...)
		x := w.record(1)
		before := w.block(x.Direct[place/16])
		w.add("the free cell", 1, name(place), 9, api.OK)
		w.written("the free cell", x.Direct[place/16])
		w.holds("the free cell", x.Direct[place/16], with(before, cell(place%16, name(place), 9)))
		w.is("the free cell", 1, x)
		l[place].Inode = 9
		w.list("the free cell", 1, l...)
		w.add("no free cell", 1, "z", 9, api.OK)
		w.list("no free cell", 1, append(l, cell(48, "z", 9))...)
		w.blocks("no free cell", 1, 4)
	}
}

// P15.2: of any free cells the lowest one, also one in an index without a block.
func TestTheLowestFreeCell(t *testing.T) {
	r := rand.New(rand.NewSource(15))
	for range 200 {
		w := fresh(t, 128)
		blocks, share := 1+r.Intn(6), r.Intn(30)
		var l []api.Entry
		low := 16 * blocks
		for place := 16*blocks - 1; place >= 0; place-- {
			if r.Intn(30) < share {
				low = place
			} else {
				l = append(l, cell(place, name(place), 1+r.Intn(15)))
			}
		}
		slices.Reverse(l)
		w.build(1, blocks, l...)
		w.add("the lowest", 1, "z", 7, api.OK)
		w.list("the lowest", 1, append(l, cell(low, "z", 7))...)
		if x := w.record(1); x.Size != max(blocks, low/16+1)*size {
			t.Errorf("P15.2: the size is %d of %d blocks, with a name put at %d", x.Size, blocks, low)
		}
	}
}

// P15.2: behind any Remove the lowest free cell is taken.
func TestLowestBehindRemove(t *testing.T) {
	for first := range 34 {
		for second := range 34 {
			if first == second {
				continue
			}
			w := fresh(t, 128)
			w.build(1, 3, row(0, 34)...)
			w.remove("the first", 1, name(first), 1+first%15)
			w.remove("the second", 1, name(second), 1+second%15)
			w.add("one", 1, "x", 2, api.OK)
			w.add("another", 1, "y", 3, api.OK)
			w.add("one more", 1, "z", 4, api.OK)
			l := slices.DeleteFunc(row(0, 34), func(c api.Entry) bool { return c.Place == first || c.Place == second })
			l = append(l, cell(min(first, second), "x", 2), cell(max(first, second), "y", 3), cell(34, "z", 4))
			w.list("behind two", 1, l...)
		}
	}
}

// P15.2: a directory grows by a block just where no cell is free, and by nothing else; Remove never lets it shrink.
func TestGrows(t *testing.T) {
	w := fresh(t, 128)
	for i := range 200 {
		w.blocks("ahead", 1, (i+15)/16)
		w.add("grows", 1, name(i), 1+i%15, api.OK)
		w.again()
	}
	w.blocks("200 names", 1, 13)
	w.free("200 names and a table", 27-14)
	x := w.record(1)
	for i := range 200 {
		w.remove("none is left", 1, name((i*7)%200), 1+(i*7)%200%15)
		w.is("none is left", 1, x)
		w.again()
	}
	w.list("none is left", 1)
	for i := range 208 {
		w.add("again", 1, name(i), 3, api.OK)
		w.again()
	}
	w.is("again", 1, x)
	w.add("one more", 1, "z", 3, api.OK)
	w.blocks("one more", 1, 14)
}

// step is what an Add does with the transaction: takes a block (number 0), or puts one.
type step struct{ number int }

var take = step{}

// adding is a directory, and what it wants for one name more, which comes to a place of it.
type adding struct {
	x      api.Inode
	blocks map[int][]byte
	place  int
	steps  []step
	after  func(x api.Inode) api.Inode
}

// fullTen is a directory whose ten direct numbers have full blocks, from 110 on.
func fullTen(indices int) (api.Inode, map[int][]byte) {
	x, blocks := sized(aDir, indices*size), map[int][]byte{}
	for k := range 10 {
		x.Direct[k] = 110 + k
		blocks[110+k] = full(k)
	}
	return x, blocks
}

func grown(x api.Inode) api.Inode { return sized(x, x.Size+size) }

func same(x api.Inode) api.Inode { return x }

// number is a record behind which another number stands.
func number(at, n int) func(x api.Inode) api.Inode {
	return func(x api.Inode) api.Inode { return withNumber(x, at, n) }
}

func both(f, g func(x api.Inode) api.Inode) func(x api.Inode) api.Inode {
	return func(x api.Inode) api.Inode { return f(g(x)) }
}

// addings are on a disk of 300 blocks, whose data begins at 103: 103, 104 and 105 are the lowest that are free.
func addings() map[string]adding {
	l := map[string]adding{
		"a free cell":             {direct(110), map[int][]byte{110: blockOf(cell(0, "a", 2))}, 1, []step{{110}}, same},
		"the first block":         {aDir, nil, 0, []step{take, {99}}, both(grown, number(0, 103))},
		"a second block":          {direct(110), map[int][]byte{110: full(0)}, 16, []step{take, {99}}, both(grown, number(1, 103))},
		"a hole ahead":            {direct(0, 110), map[int][]byte{110: full(1)}, 0, []step{take, {99}}, number(0, 103)},
		"a hole behind":           {direct(110, 0), map[int][]byte{110: full(0)}, 16, []step{take, {99}}, number(1, 103)},
		"a hole between":          {direct(110, 0, 111), map[int][]byte{110: full(0), 111: full(2)}, 16, []step{take, {99}}, number(1, 103)},
		"no block at all":         {sized(aDir, 7*size), nil, 0, []step{take, {99}}, number(0, 103)},
		"a block behind the size": {sized(direct(110, 111), size), map[int][]byte{110: full(0), 111: full(1)}, 16, []step{{111}, {99}}, grown},
	}
	put := func(what string, indices, place int, after func(x api.Inode) api.Inode, numbers map[int]int, tables map[int]map[int]int, steps ...step) {
		x, blocks := fullTen(indices)
		for at, n := range numbers {
			x = withNumber(x, at, n)
		}
		for n, nums := range tables {
			blocks[n] = table(nums)
		}
		blocks[150] = full(100)
		l[what] = adding{x, blocks, place, steps, after}
	}
	shared := map[int]int{}
	for at := range 128 {
		shared[at] = 150
	}
	put("a table", 10, 160, both(grown, number(10, 103)), nil, nil, take, take, step{103}, step{99})
	put("a hole and a table", 13, 160, number(10, 103), nil, nil, take, take, step{103}, step{99})
	put("one more in a table", 11, 176, grown, map[int]int{10: 140}, map[int]map[int]int{140: {0: 150}}, take, step{140}, step{99})
	put("a hole in a table", 12, 160, same, map[int]int{10: 140}, map[int]map[int]int{140: {1: 150}}, take, step{140})
	put("a table of tables", 138, 2208, both(grown, number(11, 103)), map[int]int{10: 140}, map[int]map[int]int{140: shared}, take, take, step{103}, take, step{104}, step{99})
	put("a hole and a table of tables", 200, 2208, number(11, 103), map[int]int{10: 140}, map[int]map[int]int{140: shared}, take, take, step{103}, take, step{104}, step{99})
	put("one more table in the table of tables", 266, 4256, grown, map[int]int{10: 140, 11: 141}, map[int]map[int]int{140: shared, 141: {0: 140}}, take, step{141}, take, step{103}, step{99})
	put("a hole and a table in the table of tables", 267, 2208, same, map[int]int{10: 140, 11: 141}, map[int]map[int]int{140: shared, 141: {1: 140}}, take, step{141}, take, step{103})
	put("a hole in a table below", 140, 2208, same, map[int]int{10: 140, 11: 141}, map[int]map[int]int{140: shared, 141: {0: 142}, 142: {1: 150}}, take, step{142})
	return l
}

// code is the error at which the steps end, with so many blocks free and room for so many, some of them being put; and what is put behind all.
func (a adding) code(left, room int, put []int) (api.Errno, []int) {
	put = slices.Clone(put)
	fits := func(i int) bool {
		if !slices.Contains(put, i) {
			put = append(put, i)
			room--
		}
		return room >= 0
	}
	took := 103
	for _, s := range a.steps {
		switch {
		case s != take:
			if !fits(s.number) {
				return api.ErrTooBig, nil
			}
		case left == 0:
			return api.ErrSpace, nil
		default:
			if !fits(98) || !fits(took) {
				return api.ErrTooBig, nil
			}
			left--
			took++
		}
	}
	return api.OK, put
}

// P15.2: what is put and in which order, by how many blocks are free and how many the transaction takes: the first error, with nothing changed; or just what is wanted.
func TestWhatAddPuts(t *testing.T) {
	for what, a := range addings() {
		for left := range 4 {
			for room := range 8 {
				for flags := range 4 {
					w := on(t, 300, only([]int{103, 104, 105}[:left]...), map[int]api.Inode{1: a.x}, a.blocks)
					if flags&1 > 0 {
						w.keep(98)
					}
					if flags&2 > 0 {
						w.keep(99)
					}
					w.stuff(room)
					code, after := a.code(left, room, w.x.Written())
					say := fmt.Sprintf("%s: %d free, room for %d, kept %02b", what, left, room, flags)
					if code != api.OK {
						w.still(say, func() { w.add(say, 1, "new", 9, code) })
						continue
					}
					w.add(say, 1, "new", 9, code)
					w.written(say, after...)
					w.is(say, 1, a.after(a.x))
					w.find(say, 1, "new", 9)
				}
			}
		}
	}
}

// P15.2: where the name has come to, and that all other names are as they were.
func TestWhereAddPuts(t *testing.T) {
	for what, a := range addings() {
		w := on(t, 300, all, map[int]api.Inode{1: a.x}, a.blocks)
		before, e := dir.List(w.x, w.g, 1)
		want(t, what, e, api.OK)
		w.add(what, 1, "new", 9, api.OK)
		after, e := dir.List(w.x, w.g, 1)
		want(t, what, e, api.OK)
		if what == "a block behind the size" {
			continue
		}
		i := slices.Index(after, cell(a.place, "new", 9))
		if i < 0 {
			t.Errorf("P15.2: %s: the name isn't at %d: %s", what, a.place, short(after))
			continue
		}
		if after = slices.Delete(after, i, i+1); !slices.Equal(before, after) {
			t.Errorf("P15.2: %s: other names too have changed: %s, were %s", what, short(after), short(before))
		}
	}
}

// P15.2: a name that stands is told ahead of no block being free and of no room.
func TestExistAheadOfSpace(t *testing.T) {
	for what, a := range addings() {
		w := on(t, 300, none, map[int]api.Inode{1: a.x}, a.blocks)
		l, _ := dir.List(w.x, w.g, 1)
		w.stuff(0)
		w.still(what, func() {
			for i := 0; i < len(l); i += 1 + len(l)/20 {
				w.add(what, 1, l[i].Name, 1, api.ErrExist)
			}
		})
	}
}

// P15.2: a block that stands behind the size already comes with what it holds, whether or not that are cells.
func TestBlockBehindTheSize(t *testing.T) {
	for _, b := range [][]byte{full(1), make([]byte, size), slices.Repeat([]byte{0x5A}, size), wrongCells(full(1))} {
		w := on(t, 128, none, map[int]api.Inode{1: sized(direct(110, 111), size)}, map[int][]byte{110: full(0), 111: b})
		w.list("ahead", 1, row(0, 16)...)
		w.add("behind the size", 1, "new", 9, api.OK)
		w.holds("behind the size", 111, with(b, cell(0, "new", 9)))
		w.is("behind the size", 1, direct(110, 111))
		w.written("behind the size", 99, 111)
	}
}

// P15.2: on a bitmap that is wrong the block that is taken may be the directory's own: it is of zeros then, and read as such.
func TestOwnBlockTaken(t *testing.T) {
	w := on(t, 128, only(110), map[int]api.Inode{1: direct(0, 110)}, map[int][]byte{110: full(1)})
	w.add("a hole gets the block behind it", 1, "new", 9, api.OK)
	w.is("a hole gets the block behind it", 1, direct(110, 110))
	w.holds("a hole gets the block behind it", 110, blockOf(cell(0, "new", 9)))
	w.list("a hole gets the block behind it", 1, cell(0, "new", 9), cell(16, "new", 9))

	w = on(t, 128, only(110), map[int]api.Inode{1: direct(110)}, map[int][]byte{110: full(0)})
	w.add("a full block is taken again", 1, "new", 9, api.OK)
	w.is("a full block is taken again", 1, direct(110, 110))
	w.holds("a full block is taken again", 110, blockOf(cell(0, "new", 9)))

	// The table is put with the number behind Take; the cell comes over that.
	x, blocks := fullTen(12)
	x.One, blocks[140], blocks[150] = 140, table(map[int]int{1: 150}), full(11)
	w = on(t, 300, only(140), map[int]api.Inode{1: x}, blocks)
	w.add("a table is taken", 1, "new", 9, api.OK)
	w.is("a table is taken", 1, x)
	w.holds("a table is taken", 140, with(table(map[int]int{0: 140, 1: 150}), cell(0, "new", 9)))
	w.written("a table is taken", 98, 140)
}

// greatest is a directory as great as one can be, in which every index has one and the same block.
func greatest(b []byte) (map[int]api.Inode, map[int][]byte) {
	x := sized(aDir, most)
	for at := range 10 {
		x.Direct[at] = 110
	}
	x.One, x.Two = 111, 112
	return map[int]api.Inode{1: x}, map[int][]byte{110: b, 111: every(110), 112: every(111)}
}

// P15.2: ErrFar, where the directory can't grow; ErrExist ahead of it; and with a cell free a name comes into that.
func TestFar(t *testing.T) {
	records, blocks := greatest(full(0))
	w := on(t, 128, all, records, blocks)
	w.still("ErrFar", func() {
		w.add("ErrFar", 1, "new", 9, api.ErrFar)
		w.add("ErrFar", 1, name(3), 9, api.ErrExist)
		w.find("ErrFar", 1, name(15), 1)
		w.noFind("ErrFar", 1, "new", api.ErrNone)
		if k, e := dir.Size(w.x, w.g, 1); k != 16*16522 || e != api.OK {
			t.Errorf("P15.5: Size of all cells: %d, %d", k, e)
		}
	})
	w.remove("a free cell", 1, name(3), 4)
	w.add("a free cell", 1, "new", 9, api.OK)
	w.find("a free cell", 1, "new", 9)
	w.written("a free cell", 110)
	w.is("a free cell", 1, records[1])
	l, e := dir.List(w.x, w.g, 1)
	if len(l) != 16*16522 || e != api.OK || l[0] != cell(0, name(0), 1) || l[16522] != cell(1, name(1), 2) || l[len(l)-16522] != cell(3, "new", 9) || l[len(l)-1] != cell(16*16521+3, "new", 9) {
		t.Errorf("P15.5: List of all cells: %s, %d", short(l), e)
	}
}

// P15.2: the last index that there is.
func TestLastIndex(t *testing.T) {
	records, blocks := greatest(full(0))
	records[1] = sized(records[1], most-size)
	w := on(t, 128, all, records, blocks)
	w.add("the last index", 1, "new", 9, api.OK)
	w.is("the last index", 1, sized(records[1], most))
	w.holds("the last index", 110, with(full(0), cell(0, "new", 9)))
	w.written("the last index", 99, 110)
	w.again()
	w.still("ErrFar", func() { w.add("ErrFar", 1, "one more", 9, api.ErrFar) })
}

// P15.1 to P15.5: a directory of the greatest size without a block.
func TestGreatestHole(t *testing.T) {
	w := on(t, 128, all, map[int]api.Inode{1: sized(aDir, most)}, nil)
	w.list("a hole", 1)
	w.noFind("a hole", 1, "a", api.ErrNone)
	w.noRemove("a hole", 1, "a", api.ErrNone)
	w.noReplace("a hole", 1, "a", 1, api.ErrNone)
	w.written("a hole")
	w.add("a hole", 1, "a", 3, api.OK)
	w.list("a hole", 1, cell(0, "a", 3))
	w.is("a hole", 1, withNumber(sized(aDir, most), 0, 101))
	w.written("a hole", 98, 99, 101)
}

// P15.2: old bytes of a block that is taken are never seen as cells.
func TestTakenBlockIsEmpty(t *testing.T) {
	old := map[int][]byte{101: full(5), 102: slices.Repeat([]byte{0xFF}, size)}
	w := on(t, 128, all, map[int]api.Inode{1: aDir}, old)
	for i := range 17 {
		w.add("a new block", 1, name(i), 1+i%15, api.OK)
	}
	w.list("a new block", 1, row(0, 17)...)
	w.holds("a new block", 102, blockOf(cell(0, name(16), 2)))
}
