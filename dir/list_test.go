package dir_test

import (
	"bytes"
	"cmp"
	"math/rand"
	"slices"
	"testing"

	"bole/api"
	"bole/dir"
)

// P15.5: by the bytes of the names, those of 128 and more behind all others, a name ahead of a longer one that begins with it.
func TestOrderOfNames(t *testing.T) {
	l := []string{"\x01", "\t", " ", "!", "-", "...", "....", "0", "00", "1", "10", "2", "A", "B", "Z", "\\", "a", "a\x01", "a ", "aa", "ab", "b", rep("x", 26), rep("x", 27), "z", "\x7f", "\x7f\xff", "\x80", "\x80\x80", "\xc3\xa4", "ä", "\xff", "\xff\x01", rep("\xff", 27)}
	l = slices.Compact(l)
	for seed := range int64(50) {
		r := rand.New(rand.NewSource(seed))
		w := fresh(t, 128)
		places := r.Perm(len(l))
		cells := make([]api.Entry, len(l))
		for place, i := range places {
			w.add("by bytes", 1, l[i], 1+i%15, api.OK)
			cells[i] = cell(place, l[i], 1+i%15)
		}
		w.still("by bytes", func() { w.list("by bytes", 1, cells...) })
	}
}

// P15.5: every byte that a name may have.
func TestOrderOfBytes(t *testing.T) {
	w := fresh(t, 128)
	var l []api.Entry
	for c := 1; c < 256; c++ {
		if c != '/' && c != '.' {
			l = append(l, cell(0, string([]byte{byte(c)}), 3))
		}
	}
	for place := range l {
		i := (place * 100) % len(l)
		w.add("each byte", 1, l[i].Name, 3, api.OK)
		l[i].Place = place
		if place%50 == 0 {
			w.again()
		}
	}
	w.list("each byte", 1, l...)
}

// P15.5: any cells, with names that stand many times, in blocks and holes, in direct ones and behind tables.
func TestAnyCells(t *testing.T) {
	for seed := range int64(100) {
		r := rand.New(rand.NewSource(seed))
		w := fresh(t, 300)
		var l []api.Entry
		blocks := 1 + r.Intn(20)
		for place := range 16 * blocks {
			if r.Intn(3) > 0 && place/16%4 != 2 {
				l = append(l, cell(place, string([]byte{byte('a' + r.Intn(6)), byte(120 + r.Intn(20))}), 1+r.Intn(31)))
			}
		}
		w.build(1, blocks, l...)
		slices.SortFunc(l, func(a, b api.Entry) int {
			return cmp.Or(bytes.Compare([]byte(a.Name), []byte(b.Name)), a.Place-b.Place)
		})
		w.still("any cells", func() { w.list("any cells", 1, l...) })
	}
}

// P15.5: places over holes: in the midst, ahead of all, behind a table that isn't there.
func TestPlacesOverHoles(t *testing.T) {
	w := fresh(t, 128)
	l := []api.Entry{cell(16*3+2, "a", 3), cell(16*9+15, "b", 4), cell(16*10, "c", 5), cell(16*137+1, "d", 6), cell(16*138+7, "e", 7), cell(16*266+14, "f", 8), cell(16*16521+15, "g", 9)}
	w.build(1, 16522, l...)
	w.still("over holes", func() {
		w.list("over holes", 1, l...)
		for _, c := range l {
			w.find("over holes", 1, c.Name, c.Inode)
		}
		w.noFind("over holes", 1, "h", api.ErrNone)
	})
	w.replace("over holes", 1, "g", 2, 9)
	w.remove("over holes", 1, "d", 6)
	w.add("over holes", 1, "z", 3, api.OK)
	l[6].Inode = 2
	w.list("over holes", 1, append(slices.Delete(l, 3, 4), cell(0, "z", 3))...)
}

// P15.5: a directory with no block, and one with blocks and no name.
func TestNoName(t *testing.T) {
	empty := make([]byte, size)
	w := on(t, 128, all, map[int]api.Inode{1: aDir, 2: sized(aDir, 3*size), 3: direct(110), 4: direct(110, 0, 111)}, map[int][]byte{110: empty, 111: empty})
	w.still("no name", func() {
		for n := 1; n <= 4; n++ {
			w.list("no name", n)
			w.noFind("no name", n, "a", api.ErrNone)
			w.noRemove("no name", n, "a", api.ErrNone)
			w.noReplace("no name", n, "a", 1, api.ErrNone)
		}
	})
}

// P15.1, P15.5: Find, List and Size put nothing and have no step; of a transaction that takes no block more too.
func TestPutNothing(t *testing.T) {
	w := on(t, 300, none, map[int]api.Inode{1: direct(110, 0, 111)}, map[int][]byte{110: full(0), 111: full(2)})
	w.stuff(0)
	w.still("nothing is put", func() {
		l, e := dir.List(w.x, w.g, 1)
		if len(l) != 32 || e != api.OK {
			t.Errorf("P15.5: List: %s, %d", short(l), e)
		}
		for _, c := range l {
			w.find("nothing is put", 1, c.Name, c.Inode)
		}
		w.noFind("nothing is put", 1, "a", api.ErrNone)
		if k, e := dir.Size(w.x, w.g, 1); k != 32 || e != api.OK {
			t.Errorf("P15.5: Size: %d, %d", k, e)
		}
	})
}
