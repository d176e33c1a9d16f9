package walk_test

import (
	"fmt"
	"testing"

	"bole/api"
	"bole/geo"
	"bole/inode"
)

// stem is directories one inside the other, from a number on: each has one name, of the next; the last one has none.
func stem(things map[int]thing, from, count int) map[int]thing {
	for i := range count - 1 {
		things[from+i] = folder(has("n", from+i+1))
	}
	things[from+count-1] = folder()
	return things
}

// P16.3: each number of levels; from 33 on it is told as 33.
func TestLevels(t *testing.T) {
	for count := 1; count <= 70; count++ {
		w := laid(t, stem(map[int]thing{}, 1, count))
		w.still(func() {
			for n := 1; n <= count; n++ {
				w.height(fmt.Sprint(count, " in a row"), n, min(count-n, 33))
			}
		})
	}
}

// P16.3: the last level's names may be of anything, and as many as one likes; no one of them leads deeper.
func TestLastLevel(t *testing.T) {
	var many []api.Entry
	for i := range 110 {
		many = append(many, has(fmt.Sprint("x", i), 120+i%3))
	}
	for levels := 1; levels <= 35; levels++ {
		for _, last := range [][]api.Entry{{has("f", 120)}, {has("l", 121)}, {has("free", 122)}, {{}, {}, has("f", 120)}, many} {
			things := stem(map[int]thing{120: plainFile("x"), 121: linkTo("/n")}, 1, levels)
			things[levels] = folder(last...)
			w := laid(t, things)
			w.height(fmt.Sprint(levels, " levels"), 1, min(levels, 33))
			w.height("the last one", levels, 1)
		}
	}
}

// P16.3: a directory without a name is none deep, however long it is: without a block, with holes, with blocks whose cells are free.
func TestNoName(t *testing.T) {
	w := laid(t, map[int]thing{1: folder(), 2: folder(api.Entry{}, api.Entry{}), 3: {x: api.Inode{Kind: 2, Links: 2, Size: 300 * size}}, 4: {x: api.Inode{Kind: 2, Links: 60000, Size: api.MaxFile}}, 5: folder(has("a", 1), has("b", 2), has("c", 3), has("d", 4))})
	w.still(func() {
		for n := 1; n <= 4; n++ {
			w.height("no name", n, 0)
		}
		w.height("of such", 5, 1)
	})
}

// P16.3: the deepest branch counts, whichever its number or name is.
func TestBranches(t *testing.T) {
	for _, names := range [][3]string{{"a", "b", "c"}, {"c", "b", "a"}, {"b", "c", "a"}} {
		for _, from := range [][3]int{{10, 20, 30}, {30, 20, 10}, {20, 30, 10}} {
			for _, counts := range [][3]int{{1, 2, 3}, {3, 2, 1}, {2, 7, 2}, {1, 1, 1}, {1, 1, 9}} {
				things := map[int]thing{}
				var l []api.Entry
				deepest := 0
				for i, count := range counts {
					stem(things, from[i], count)
					l = append(l, has(names[i], from[i]))
					deepest = max(deepest, count)
				}
				things[2] = folder(l...)
				laid(t, things).height(fmt.Sprint(names, from, counts), 2, deepest)
			}
		}
	}
}

// P16.3: symbolic links are names, and aren't followed.
func TestLinksAreNotFollowed(t *testing.T) {
	w := laid(t, map[int]thing{1: folder(has("d", 2), has("up", 4)), 2: folder(has("top", 3), has("self", 5)), 3: linkTo("/"), 4: linkTo("d"), 5: linkTo("..")})
	w.height("links", 1, 2)
	w.height("links", 2, 1)
	w.noHeight("a link", 3, api.ErrNotDir)
}

// P16.3: directories that have names of themselves, of one another, of those above them.
func TestRings(t *testing.T) {
	for what, things := range map[string]map[int]thing{
		"itself":             {2: folder(has("me", 2))},
		"one another":        {2: folder(has("a", 3)), 3: folder(has("b", 2))},
		"three":              {2: folder(has("a", 3)), 3: folder(has("a", 4)), 4: folder(has("a", 2))},
		"into a ring":        {2: folder(has("a", 3), has("b", 5)), 3: folder(has("me", 3)), 5: folder()},
		"sixteen times":      {2: folder(many("m", 16, 2)...)},
		"each of all":        {2: folder(has("a", 2), has("b", 3), has("c", 4)), 3: folder(has("a", 2), has("b", 3), has("c", 4)), 4: folder(has("a", 2), has("b", 3), has("c", 4))},
		"behind empty ones":  {2: folder(has("a", 3), has("b", 9)), 3: folder(), 9: folder(has("c", 3), has("d", 9))},
		"the root is inside": {1: folder(has("d", 2)), 2: folder(has("root", 1))},
	} {
		w := laid(t, things)
		w.still(func() { w.height(what, 2, 33) })
	}
}

func many(name string, count, inode int) []api.Entry {
	var l []api.Entry
	for i := range count {
		l = append(l, has(fmt.Sprint(name, i), inode))
	}
	return l
}

// P16.3: a directory that has several names in a level is once in the next one: else a few names more at each level could not be gone through.
func TestEachOnce(t *testing.T) {
	for levels := 2; levels <= 40; levels++ {
		things := map[int]thing{}
		for n := 1; n < levels; n++ {
			things[2*n], things[2*n+1] = folder(append(many("a", 3, 2*n+2), many("b", 3, 2*n+3)...)...), folder(append(many("c", 3, 2*n+3), many("d", 3, 2*n+2)...)...)
		}
		things[2*levels], things[2*levels+1] = folder(), folder()
		w := laid(t, things)
		w.height(fmt.Sprint(levels, " levels"), 2, min(levels-1, 33))
		w.height(fmt.Sprint(levels, " levels"), 3, min(levels-1, 33))
	}
}

// P16.3: a directory may stand in several levels, and counts in each.
func TestInSeveralLevels(t *testing.T) {
	things := map[int]thing{1: folder(has("a", 2), has("b", 4)), 2: folder(has("c", 3), has("d", 4)), 3: folder(has("e", 4)), 4: folder(has("f", 5)), 5: folder()}
	w := laid(t, things)
	for n, levels := range map[int]int{1: 4, 2: 3, 3: 2, 4: 1, 5: 0} {
		w.height("in several levels", n, levels)
	}
}

// P16.3: what is no directory.
func TestNoDirectory(t *testing.T) {
	w := laid(t, map[int]thing{1: folder(has("f", 2), has("l", 3)), 2: plainFile(rep("x", 600)), 3: linkTo("/"), 5: plainFile("")})
	w.still(func() {
		for _, n := range []int{2, 3, 4, 5, 6, 127} {
			w.noHeight("no directory", n, api.ErrNotDir)
		}
		w.height("beside them", 1, 1)
	})
}

// P16.3: numbers that no inode has, whatever the transaction says; else its errors.
func TestNumbersOfHeight(t *testing.T) {
	for how, code := range ends {
		w := example(t)
		w.again()
		w.end(how)
		w.still(func() {
			for _, n := range noInodes(w.g) {
				w.noHeight(how, n, api.ErrInode)
			}
			for n := 1; code != api.OK && n < w.g.Count; n++ {
				w.noHeight(how, n, code)
			}
		})
	}
	for _, blocks := range []int{128, 192, 4097} {
		w := fresh(t, blocks)
		w.setRecord(w.g.Count-1, folder().x)
		w.height("the last one", w.g.Count-1, 0)
		w.noHeight("behind it", w.g.Count, api.ErrInode)
	}
}

// last is a disk on which the directories of the thirty-third level, by rising numbers, are these; those above have names of all of them.
func last(t *testing.T, level ...thing) *world {
	t.Helper()
	things := stem(map[int]thing{}, 1, 32)
	var l []api.Entry
	for i, o := range level {
		things[64+8*i] = o
		l = append(l, has(fmt.Sprint("z", 9-i), 64+8*i))
	}
	things[32] = folder(l...)
	return laid(t, things)
}

// P16.3: 33 is told as soon as a directory of the thirty-third level has a name: neither what that names is read, nor what stands behind it.
func TestThirtyThird(t *testing.T) {
	wrong := folder(has("x", 2))
	wrong.x.Direct[0] = 5

	w := last(t, folder(), folder())
	w.height("no name", 1, 32)
	w = last(t, folder(), folder(has("x", 120)))
	w.height("a name", 1, 33)
	w = last(t, folder(has("x", 4000)), folder())
	w.height("a name of no inode", 1, 33)
	w.noHeight("seen from further down", 2, api.ErrInode)
	w = last(t, folder(has("x", 120)))
	w.noRecord(120)
	w.height("a name of no record", 1, 33)
	w.noHeight("seen from further down", 2, api.ErrRecord)
	w = last(t, folder(has("x", 1)), wrong)
	w.height("a wrong one behind it", 1, 33)
	w.noHeight("seen from further down", 2, api.ErrPointer)
	w = last(t, folder(), wrong, folder(has("x", 1)))
	w.noHeight("a wrong one ahead", 1, api.ErrPointer)
	w = last(t, wrong)
	w.noHeight("a wrong one alone", 1, api.ErrPointer)
	w = last(t, folder(), folder(), folder())
	w.noRecord(64)
	w.noHeight("no record", 1, api.ErrRecord)
}

// P16.3: what was met further up is met again in the thirty-third level, and ends it.
func TestThirtyThirdMetAhead(t *testing.T) {
	things := stem(map[int]thing{}, 1, 32)
	things[32] = folder(has("me", 40), has("two", 41))
	things[40] = folder(has("f", 100))
	things[41] = folder(has("x", 4000))
	things[1] = folder(has("early", 40), has("n", 2))
	w := laid(t, things)
	w.height("met ahead", 1, 33)
	things[1] = folder(has("early", 41), has("n", 2))
	laid(t, things).noHeight("met ahead", 1, api.ErrInode)
}

// P16.3: directories by the hundreds, each with names of all of them, in blocks that they share, on the greatest disk.
func TestAllOfAll(t *testing.T) {
	const count, blocks = 400, 25
	var l []api.Entry
	for i := range count {
		l = append(l, has(fmt.Sprintf("%03d", i), 2+i*5))
	}
	cells := folder(l...).b
	g, _ := geo.Of(api.MaxDisk)
	w := on(t, api.MaxDisk, func(g api.Geo, b []byte) {
		x := api.Inode{Kind: 2, Links: 2, Size: blocks * size, One: g.Data}
		for i := range 10 {
			x.Direct[i] = g.Data + 1 + i
		}
		for i := range blocks - 10 {
			copy(b[g.Data*size+4*i:], []byte{byte((g.Data + 11 + i) % 256), byte((g.Data + 11 + i) / 256)})
		}
		copy(b[(g.Data+1)*size:], cells)
		raw, _ := inode.Encode(x)
		for _, c := range l {
			copy(b[g.Inodes*size+64*c.Inode:], raw)
		}
	})
	w.height("each of all", 2, 33)
	w.height("each of all", 2+5*(count-1), 33)
	if g.Count != 2048 {
		t.Errorf("the greatest disk has %d inodes", g.Count)
	}
}
