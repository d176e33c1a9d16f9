package check_test

import (
	"cmp"
	"fmt"
	"slices"
	"testing"

	"bole/api"
)

// line is a finding with its place in P19.1's order: which of its nine parts, and the bit, inode or block by which that part goes.
type line struct {
	part, by int
	text     string
}

// fault is one that can be drawn into the tree of orderly, without touching what another one touches.
type fault struct {
	draw  func(s *sketch)
	lines []line
}

// orderly is a disk of 2048 blocks: a root with the directories 10, 20, .. 200, each with a file (by its number and 2) in it that has a block; and in directory 110 a stem of the directories 210 to 240, the last of which lies 32 deep.
func orderly(t *testing.T) *sketch {
	s := fresh(t, 2048)
	var root []api.Entry
	for n := 10; n <= 200; n += 10 {
		root = append(root, has(fmt.Sprint("d", n), n))
		s.dir(n, 2, 400+n, has("f", n+2))
		s.record(n+2, plainFile(1, 512, 402+n))
		s.lay(402+n, rep("x", 512))
	}
	s.dir(1, 22, 300, root...)
	s.dir(110, 3, 510, has("f", 112), has("s", 210))
	for n := 210; n < 240; n++ {
		s.dir(n, 3, 400+n, has("s", n+1))
	}
	s.record(240, folder(2, 0))
	return s
}

// faults are one of each Kind at least.
func faults() []fault {
	return []fault{
		{func(s *sketch) { s.free(5) }, []line{{3, 5, "meta 5"}}},
		{func(s *sketch) { s.free(130) }, []line{{3, 130, "meta 130"}}},
		{func(s *sketch) { s.free(2048) }, []line{{3, 2048, "meta 2048"}}},
		{func(s *sketch) { s.bytesOf(0)[63] = 1 }, []line{{4, 0, "record 0"}}},
		{func(s *sketch) { s.bytesOf(255)[0] = 9 }, []line{{4, 255, "record 255"}}},
		{func(s *sketch) { s.record(12, plainFile(1, 512, 412, 7)) }, []line{{5, 12, "pointer 12 7"}}},
		{func(s *sketch) { s.record(22, plainFile(1, 512, 422, 422)) }, []line{{5, 22, "twice 22 422"}}},
		{func(s *sketch) { s.record(32, plainFile(1, 5, 432)) }, []line{{5, 32, "tail 32 432"}}},
		{func(s *sketch) { s.free(442) }, []line{{6, 442, "free 442"}}},
		{func(s *sketch) { s.take(2000) }, []line{{6, 2000, "taken 2000"}}},
		{func(s *sketch) {
			s.record(50, folder(2, 1024, 450, 451))
			s.lay(451, "x")
		}, []line{{7, 50, "cell 50 451"}}},
		{func(s *sketch) { s.record(60, folder(2, 1024, 460)) }, []line{{7, 60, "cell 60 0"}}},
		{func(s *sketch) {
			s.dir(70, 2, 470, has("f", 72), has("f", 72))
			s.record(72, plainFile(2, 512, 472))
		}, []line{{7, 70, "name 70 f"}}},
		{func(s *sketch) { s.dir(80, 2, 480, has("f", 82), has("n", 254)) }, []line{{7, 80, "none 80 n"}}},
		{func(s *sketch) {
			s.dir(90, 4, 490, has("f", 92), has("a", 93), has("b", 93))
			s.record(93, folder(2, 0))
		}, []line{{7, 90, "parent 93 b"}}},
		{func(s *sketch) {
			s.record(102, linkOf(1, 512, 502))
			s.lay(502, rep("x", 512))
		}, []line{{7, 102, "text 102"}}},
		{func(s *sketch) {
			s.record(112, plainFile(2, 512, 512))
			s.dir(240, 2, 640, has("z", 112))
		}, []line{{8, 240, "deep 240 z"}}},
		{func(s *sketch) { s.record(123, folder(2, 0)) }, []line{{9, 123, "lost 123"}}},
		{func(s *sketch) { s.record(133, plainFile(2, 0)) }, []line{{9, 133, "lost 133"}, {9, 133, "links 133"}}},
		{func(s *sketch) { s.record(142, plainFile(3, 512, 542)) }, []line{{9, 142, "links 142"}}},
		{func(s *sketch) { s.record(153, plainFile(0, 0)) }, []line{{9, 153, "orphan 153"}}},
		{func(s *sketch) {
			s.dir(160, 2, 560, has("n", 254))
		}, []line{{7, 160, "none 160 n"}, {9, 162, "lost 162"}, {9, 162, "links 162"}}},
	}
}

// findsAll draws faults, and holds that they are told in their order.
func (s *sketch) findsAll(what string, l ...fault) {
	s.t.Helper()
	var all []line
	for _, f := range l {
		f.draw(s)
		all = append(all, f.lines...)
	}
	slices.SortStableFunc(all, func(a, b line) int { return cmp.Or(cmp.Compare(a.part, b.part), cmp.Compare(a.by, b.by)) })
	var texts []string
	for _, x := range all {
		texts = append(texts, x.text)
	}
	s.finds(what, texts...)
}

// P19.1: each Kind of finding by itself, each two, and all, in the order that the promise says.
func TestOrder(t *testing.T) {
	z := orderly(t)
	z.finds("the tree")
	all := faults()
	for i, f := range all {
		z.copy().findsAll(fmt.Sprint("fault ", i), f)
		for j, g := range all[i+1:] {
			z.copy().findsAll(fmt.Sprint("faults ", i, " and ", i+1+j), f, g)
		}
	}
	z.copy().findsAll("all faults", all...)
	slices.Reverse(all)
	z.copy().findsAll("all faults, the last one drawn first", all...)
	told := map[string]bool{}
	for _, f := range all {
		for _, l := range f.lines {
			told[fmt.Sprint(finding(l.text).Kind)] = true
		}
	}
	if len(told) != 16 {
		t.Errorf("of %d Kinds there is a fault, want 16", len(told))
	}
}
