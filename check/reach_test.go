package check_test

import (
	"fmt"
	"testing"

	"bole/api"
)

// stem is a disk of 640 blocks with directories each of which holds the next one, as "d": inode 1 + k lies k deep.
// The last one is empty. Its Data is block 109; directory n has the block 200 + n.
func stem(t *testing.T, deep int) *sketch {
	s := fresh(t, 640)
	for n := 1; n <= deep; n++ {
		s.dir(n, 3, 200+n, has("d", n+1))
	}
	s.record(deep+1, folder(2, 0))
	return s
}

// P19.1: names that lie 32 deep, and such as lie deeper.
func TestDeep(t *testing.T) {
	stem(t, 1).finds("a directory in the root")
	stem(t, 31).finds("31 directories")
	stem(t, 32).finds("32 directories, of which the last lies 32 deep")
	stem(t, 33).finds("33 directories", "deep 33 d", "lost 34")
	stem(t, 34).finds("34 directories", "deep 33 d", "lost 34", "lost 35")
	stem(t, 40).finds("40 directories", "deep 33 d", "lost 34", "lost 35", "lost 36", "lost 37", "lost 38", "lost 39", "lost 40", "lost 41")
}

// P19.1: files and links about the depth of 32, and the cells of the directory that lies so deep, by block and place.
func TestDeepThings(t *testing.T) {
	s := stem(t, 31)
	s.dir(32, 2, 300, has("f", 40), has("l", 41))
	s.record(40, plainFile(1, 0))
	s.record(41, linkOf(1, 1, 310))
	s.lay(310, "x")
	s.finds("a file and a link 32 deep")

	s = stem(t, 32)
	s.dir(33, 2, 300, has("f", 40), has("l", 41))
	s.record(40, plainFile(1, 0))
	s.record(41, linkOf(1, 1, 310))
	s.lay(310, "x")
	s.finds("a file and a link 33 deep", "deep 33 f", "deep 33 l", "lost 40", "lost 41")
	s.record(40, plainFile(0, 0))
	s.finds("such a file with Links 0 is no orphan", "deep 33 f", "deep 33 l", "lost 40", "links 40", "lost 41")

	s = stem(t, 32)
	var l []api.Entry
	var lines []string
	for k := range 20 {
		name := fmt.Sprint("f", 99-k)
		l = append(l, has(name, 40))
		lines = append(lines, "deep 33 "+name)
	}
	s.dir(33, 2, 300, l...)
	s.record(40, plainFile(20, 0))
	s.finds("twenty names 33 deep", append(lines, "lost 40")...)

	s = stem(t, 32)
	s.dir(33, 4, 300, has("n", 60), has("x", 2), has("r", 1), has("n", 500))
	s.finds("names 33 deep of what isn't there, of a directory that is reached, of the root, and one twice",
		"none 33 n", "parent 2 x", "parent 1 r", "name 33 n", "none 33 n", "deep 33 n", "deep 33 x", "deep 33 r", "deep 33 n")
}

// P19.1: a file with two names that lie unlike deep is reached by the one that may be.
func TestTwoNamesDeep(t *testing.T) {
	s := stem(t, 32)
	s.dir(33, 2, 300, has("f", 40))
	s.dir(1, 3, 201, has("d", 2), has("f", 40))
	s.record(40, plainFile(2, 0))
	s.finds("names 1 and 33 deep", "deep 33 f")
	s = stem(t, 32)
	s.dir(33, 2, 300, has("f", 40))
	s.dir(32, 3, 301, has("d", 33), has("f", 40))
	s.record(40, plainFile(2, 0))
	s.free(232)
	s.finds("names 32 and 33 deep", "deep 33 f")
}

// P19.1: a directory that is reached by two ways lies as deep as the less deep one, in whatever order they are met.
func TestTwoWays(t *testing.T) {
	// Directory 50 has a file inside; it is named by the stem's directory at each depth, and by the root.
	draw := func(at int, ahead bool) *sketch {
		s := stem(t, 32)
		s.dir(at, 4, 301, has("d", at+1), has("x", 50))
		s.free(200 + at)
		root := []api.Entry{has("d", 2), has("y", 50)}
		if ahead {
			root[0], root[1] = root[1], root[0]
		}
		s.dir(1, 4, 201, root...)
		s.dir(50, 2, 302, has("f", 51))
		s.record(51, plainFile(1, 0))
		return s
	}
	for at := 2; at <= 32; at++ {
		for _, ahead := range []bool{false, true} {
			draw(at, ahead).finds(fmt.Sprint("by the root and by directory ", at, ", ahead ", ahead), "parent 50 x")
		}
	}
	// The way by way of the root is met first by the order of inodes, or last, and the deep one first by going down.
	s := stem(t, 32)
	s.dir(32, 4, 301, has("d", 33), has("x", 50))
	s.free(232)
	s.dir(50, 3, 302, has("e", 51))
	s.dir(51, 2, 303, has("f", 52))
	s.record(52, plainFile(1, 0))
	s.finds("by the stem alone", "deep 50 e", "lost 51", "lost 52")
	s.dir(1, 4, 201, has("d", 2), has("b", 60))
	s.dir(60, 3, 304, has("c", 61))
	s.dir(61, 3, 305, has("g", 50))
	s.finds("by the stem, and by three steps", "parent 50 g")

	// A way that goes up from a deep directory to a high number, and another one that is one step shorter.
	s = stem(t, 30)
	s.dir(31, 4, 300, has("a", 40), has("b", 50))
	s.dir(40, 3, 301, has("c", 50))
	s.dir(50, 2, 302, has("f", 51))
	s.record(51, plainFile(1, 0))
	s.finds("31 and 32 deep, so that what is in it lies 32 deep", "parent 50 c")
	s.dir(31, 3, 300, has("a", 40))
	s.finds("32 deep alone, so that what is in it lies 33 deep", "deep 50 f", "lost 51")
	s.dir(31, 4, 300, has("b", 50), has("a", 40))
	s.finds("the shorter one ahead", "parent 50 c")
}

// P19.1: a directory that another way makes less deep lets all that is below it lie less deep.
func TestShortCut(t *testing.T) {
	s := stem(t, 40)
	s.dir(1, 4, 201, has("d", 2), has("cut", 20))
	s.finds("a short cut to the middle", "parent 20 d")
	s = stem(t, 40)
	s.dir(1, 4, 201, has("d", 2), has("cut", 10))
	s.finds("a short cut by which just the last one is reached", "parent 10 d")
	s.dir(1, 4, 201, has("d", 2), has("cut", 9))
	s.finds("and one less", "parent 9 d", "deep 40 d", "lost 41")
	// A directory that lies too deep by its first name has a second one, met behind it.
	s = stem(t, 33)
	s.dir(30, 4, 300, has("d", 31), has("e", 34))
	s.free(230)
	s.finds("a name 33 deep and one 30 deep", "parent 34 d", "deep 33 d")
}

// P19.1: rings.
func TestRings(t *testing.T) {
	s := fresh(t, 128)
	s.dir(2, 3, 110, has("b", 3))
	s.dir(3, 3, 111, has("a", 2))
	s.finds("a ring that isn't reached", "lost 2", "lost 3")
	s.dir(1, 3, 112, has("x", 3))
	s.finds("a ring that is reached", "parent 3 b")
	s.dir(1, 3, 112, has("x", 2))
	s.finds("a ring that is reached at its other one", "parent 2 a")

	s = fresh(t, 640)
	for n := 10; n < 60; n++ {
		next := n + 1
		if next == 60 {
			next = 10
		}
		s.dir(n, 4, 200+n, has("d", next), has("e", next))
	}
	var lines []string
	for n := 10; n < 60; n++ {
		if next := n + 1; next < 60 {
			lines = append(lines, fmt.Sprint("parent ", next, " e"))
		} else {
			lines = append(lines, "parent 10 e")
		}
	}
	var lost []string
	for n := 10; n < 60; n++ {
		lost = append(lost, fmt.Sprint("lost ", n))
	}
	s.finds("a wide ring that isn't reached", append(lines[:len(lines):len(lines)], lost...)...)
	s.dir(1, 3, 300, has("x", 10))
	lines = append(append(lines[:49:49], "parent 10 d"), lines[49:]...)
	lines = append(lines, "deep 41 d", "deep 41 e")
	s.finds("a wide ring that is reached", append(lines, lost[32:]...)...)
}

// P19.1: what is reached through a directory whose block is wrong, or behind a hole, isn't.
func TestNotReached(t *testing.T) {
	s := fresh(t, 128)
	s.dir(1, 3, 110, has("d", 2))
	s.dir(2, 3, 111, has("e", 3))
	s.dir(3, 2, 112, has("f", 4))
	s.record(4, plainFile(1, 0))
	s.finds("a small tree")
	s.turn(111, 40, 1)
	s.finds("a wrong block in its middle", "cell 2 111", "links 2", "lost 3", "lost 4")
	s.turn(111, 40, 0)
	s.dir(2, 3, 111, has("", 0), has("e", 3))
	s.finds("another place")
	s.record(2, folder(3, 512))
	s.finds("no block in its middle", "taken 111", "cell 2 0", "links 2", "lost 3", "lost 4")
	s.record(2, folder(2, 0))
	s.finds("no Size in its middle", "taken 111", "lost 3", "lost 4")
	s.record(2, api.Inode{})
	s.finds("nothing in its middle", "taken 111", "none 1 d", "links 1", "lost 3", "lost 4")
	s.record(2, plainFile(1, 512, 111))
	s.finds("a file in its middle", "links 1", "lost 3", "lost 4")
}
