package check_test

import (
	"bytes"
	"fmt"
	"runtime"
	"slices"
	"strings"
	"testing"
	"time"

	"bole/api"
	"bole/check"
)

// wrongs is an image with findings of many Kinds, names among them.
func wrongs(t *testing.T) *sketch {
	s := orderly(t)
	for _, f := range faults() {
		f.draw(s)
	}
	return s
}

// P19.6, W3: the bytes that are handed in stay as they are, the room behind them too, and what is answered doesn't change with them.
func TestBytesStay(t *testing.T) {
	wrong := wrongs(t)
	good := wrong.copy()
	good.log([]int{98, 2047}, [][]byte{good.block(98), good.block(2047)})
	bad := wrong.copy()
	bad.turn(1, 0, 1)
	none := wrong.copy()
	none.turn(0, 0, 1)
	for i, s := range []*sketch{fresh(t, 128), wrong, good, bad, none, ofBytes(t, nil), ofBytes(t, []byte{1, 2, 3})} {
		room := append(bytes.Clone(s.b), bytes.Repeat([]byte{9}, 4096)...)
		b := room[:len(s.b)]
		l := check.Image(b)
		if !bytes.Equal(b, s.b) || bytes.Count(room[len(s.b):], []byte{9}) != 4096 {
			t.Errorf("P19.6: image %d: the bytes that were handed in have changed", i)
		}
		stood := slices.Clone(l)
		for at := range room {
			room[at] = 0xFF
		}
		if !slices.Equal(l, stood) || check.Print(l) != check.Print(plain(s.b)) {
			t.Errorf("P19.6: image %d: what was answered has changed with the bytes", i)
		}
	}
}

// P19.6, W3: no two answers share memory, spare room too.
func TestAnswersApart(t *testing.T) {
	for _, s := range []*sketch{fresh(t, 128), wrongs(t), ofBytes(t, nil)} {
		want := plain(s.b)
		one, two := check.Image(s.b), check.Image(s.b)
		for _, l := range [][]api.Finding{one[:cap(one)], append(one, api.Finding{Kind: 77})} {
			for i := range l {
				l[i] = api.Finding{Kind: 99, Inode: 99, Block: 99, Name: "written over"}
			}
		}
		if !slices.Equal(two, want) {
			t.Errorf("P19.6: an answer has changed with another one")
		}
		if three := check.Image(s.b); !slices.Equal(three, want) {
			t.Errorf("P19.6: an answer has changed with an earlier one")
		}
	}
}

// P19.6, W3: a list of findings stays as it is.
func TestListStays(t *testing.T) {
	all := findings([]string{"orphan 2", "name 1 a b", "tail 2 101", "super", "orphan 3"})
	room := append(slices.Clone(all), findings([]string{"lost 7", "lost 8"})...)
	stood := slices.Clone(room)
	l := room[:len(all)]
	check.Clean(l)
	s := check.Print(l)
	if !slices.Equal(room, stood) {
		t.Errorf("P19.6: a list that was handed in has changed")
	}
	clear(room)
	if s != "orphan 2\nname 1 a\\x20b\ntail 2 101\nsuper\norphan 3\n" {
		t.Errorf("P19.6: what was printed has changed: %q", s)
	}
}

// P19.6: nothing of an image is kept behind the call: a name's text doesn't hold on to it.
func TestNothingKept(t *testing.T) {
	alive := func() uint64 {
		runtime.GC()
		var m runtime.MemStats
		runtime.ReadMemStats(&m)
		return m.HeapAlloc
	}
	var kept [][]api.Finding
	before := alive()
	for range 8 {
		s := fresh(t, 16384)
		s.dir(1, 2, 400, has("a", 9), has("a", 9))
		kept = append(kept, check.Image(s.b))
	}
	if after := alive(); after > before+8<<20 {
		t.Errorf("P19.6: eight answers hold on to %d bytes", after-before)
	}
	for _, l := range kept {
		if !slices.Equal(l, findings([]string{"none 1 a", "name 1 a", "none 1 a"})) {
			t.Errorf("P19.1: %v", l)
		}
	}
}

// soon holds that an image is gone through as fast as its bytes and its findings ask for: were one of them met again for each other one, it would take minutes.
func soon(t *testing.T, what string, b []byte) []api.Finding {
	t.Helper()
	begin := time.Now()
	l := check.Image(b)
	if took := time.Since(begin); took > 20*time.Second {
		t.Errorf("P19.6: %s: %v", what, took)
	}
	return l
}

// laidOut gives an inode so many indices, each with a block of its own, from the block next on, and the tables that they want: the next block that is left.
func laidOut(s *sketch, n int, x api.Inode, blocks, next int) int {
	take := func() int {
		next++
		s.lay(next-1, "")
		return next - 1
	}
	for k := range blocks {
		at := 0
		switch {
		case k < 10:
			x.Direct[k] = take()
			continue
		case k < 138:
			if x.One == 0 {
				x.One = take()
			}
			at = x.One*size + 4*(k-10)
		default:
			if x.Two == 0 {
				x.Two = take()
			}
			above := x.Two*size + (k-138)/128*4
			if le32(s.b[above:]) == 0 {
				s.word(0, above, take())
			}
			at = le32(s.b[above:])*size + (k-138)%128*4
		}
		s.word(0, at, take())
	}
	s.record(n, x)
	return next
}

// P19.6: the greatest disk, one directory of which has nearly all blocks, with all cells taken.
func TestGreatDir(t *testing.T) {
	blocks := 15800
	draw := func(name func(i int) string, inode func(i int) int) *sketch {
		s := fresh(t, 16384)
		laidOut(s, 1, folder(2, 512*blocks), blocks, s.g.Data)
		i := 0
		(&shuffle{s, nil}).eachBlock(1, func(num int) {
			var l []api.Entry
			for range 16 {
				l = append(l, has(name(i), inode(i)))
				i++
			}
			s.cells(num, l...)
		})
		return s
	}
	own := func(i int) string { return fmt.Sprint("name", i) }
	same := func(int) string { return rep("x", 27) }
	cells := 16 * blocks

	s := draw(own, func(int) int { return 2 })
	s.record(2, plainFile(1000, 0))
	if l := soon(t, "a file with all names", s.b); !slices.Equal(l, findings([]string{"links 2"})) {
		t.Errorf("P19.1: a file with all names: %s", few(l))
	}
	s.record(2, folder(2, 0))
	l := soon(t, "a directory with all names", s.b)
	if len(l) != cells-1+1 || l[0] != finding("parent 2 name1") || l[len(l)-1] != finding("links 1") {
		t.Errorf("P19.1: a directory with all names: %d, %s", len(l), few(l))
	}
	s = draw(same, func(int) int { return 2 })
	s.record(2, plainFile(1000, 0))
	if l := soon(t, "one name at all places", s.b); len(l) != cells-1+1 {
		t.Errorf("P19.1: one name at all places: %d, %s", len(l), few(l))
	}
	s = draw(own, func(i int) int { return 3 + i })
	if l := soon(t, "names of nothing", s.b); len(l) != cells {
		t.Errorf("P19.1: names of nothing: %d, %s", len(l), few(l))
	}
	s = draw(own, func(i int) int { return 2 + i%2046 })
	for n := 2; n < 2048; n++ {
		s.record(n, folder(2, 0))
	}
	if l := soon(t, "all directories many times", s.b); len(l) != cells-2046+1 {
		t.Errorf("P19.1: all directories many times: %d, %s", len(l), few(l))
	}
}

// P19.6: all data blocks are tables of numbers that may not be, or were met before.
func TestGreatTables(t *testing.T) {
	for _, c := range []struct{ what, line string }{{"numbers that may not be", "pointer 2 7"}, {"numbers that were met", "twice 2 358"}} {
		s := fresh(t, 16384)
		num := finding(c.line).Block
		next, tables, files := s.g.Data, 0, 0
		for n := 2; n < 2048 && next+130 < 16384; n++ {
			x := plainFile(0, api.MaxFile)
			if n == 2 {
				x.Direct[0] = next
				s.take(next)
				next++
			}
			x.Two = next
			nums := map[int]int{}
			for i := range 128 {
				nums[i] = next + 1 + i
				all := map[int]int{}
				for j := range 128 {
					all[j] = num
				}
				s.table(next+1+i, all)
				tables++
			}
			s.table(next, nums)
			next += 129
			s.record(n, x)
			files++
		}
		l := soon(t, c.what, s.b)
		count := 0
		for _, f := range l {
			if f.Kind == finding(c.line).Kind && f.Block == num {
				count++
			}
		}
		if count != 128*tables || l[0] != finding(c.line) || len(l) != count+files {
			t.Errorf("P19.1: %s: %d of %d, %d tables", c.what, count, len(l), tables)
		}
		if s := check.Print(l); strings.Count(s, "\n") != len(l) {
			t.Errorf("P19.3: %s: %d lines of %d", c.what, strings.Count(s, "\n"), len(l))
		}
	}
}

// P19.6: a ring of all directories of the greatest disk, each of which has all others in it as far as there is room.
func TestGreatRing(t *testing.T) {
	s := fresh(t, 16384)
	next := s.g.Data
	for n := 1; n < 2048; n++ {
		var l []api.Entry
		for k := range 7 * 16 {
			l = append(l, has(fmt.Sprint("n", k), 1+(n*31+k*17)%2047))
		}
		s.dir(n, 2+len(l), next, l...)
		next += 7
	}
	l := soon(t, "a ring of all directories", s.b)
	if len(l) != 2047*7*16-2046 {
		t.Errorf("P19.1: a ring of all directories: %d, %s", len(l), few(l))
	}
	for _, f := range l {
		if f.Kind != api.FindParent {
			t.Fatalf("P19.1: a ring of all directories: %v", f)
		}
	}
}
