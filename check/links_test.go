package check_test

import (
	"fmt"
	"testing"
)

// P19.1: files with Links 0, named and not.
func TestOrphans(t *testing.T) {
	s := fresh(t, 128)
	s.record(2, plainFile(0, 0))
	s.record(9, plainFile(0, 5, 110))
	s.lay(110, "hello")
	s.record(15, plainFile(0, 0))
	s.finds("three orphans", "orphan 2", "orphan 9", "orphan 15")
	s.dir(1, 2, 101, has("a", 9))
	s.finds("one of them is named", "orphan 2", "links 9", "orphan 15")
	s.dir(1, 2, 101)
	s.free(101)
	s.dir(3, 2, 102, has("a", 9))
	s.finds("one of them is named by a directory that isn't reached", "orphan 2", "lost 3", "lost 9", "links 9", "orphan 15")
	s.turn(102, 511, 1)
	s.finds("or by a wrong block", "cell 3 102", "orphan 2", "lost 3", "orphan 9", "orphan 15")
	s.record(3, folder(2, 0, 102))
	s.finds("or behind the size", "tail 3 102", "orphan 2", "lost 3", "orphan 9", "orphan 15")
}

// P19.1: Links of files and symbolic links: as many as there are names, one too many, one too few.
func TestLinksOfFiles(t *testing.T) {
	for names := range 4 {
		for links := range 6 {
			for kind := range 2 {
				s := fresh(t, 128)
				all := []string{"a", "b", "c"}[:names]
				s.dir(1, 3, 101, has("d", 3))
				for i, name := range all {
					s.turn(101, 32*(i+1), 2, 0, 0, 0, 1, name[0])
				}
				s.dir(3, 2, 102)
				s.record(2, plainFile(links, 0))
				if kind == 1 {
					s.record(2, linkOf(links, 1, 110))
					s.lay(110, "x")
				}
				var lines []string
				switch {
				case kind == 1 && links == 0:
					lines = []string{"record 2", "taken 110"}
					for _, name := range all {
						lines = append(lines, "none 1 "+name)
					}
				case kind == 0 && names == 0 && links == 0:
					lines = []string{"orphan 2"}
				case names == 0:
					lines = []string{"lost 2", "links 2"}
				case names != links:
					lines = []string{"links 2"}
				}
				s.finds(fmt.Sprint("kind ", kind, ", names ", names, ", Links ", links), lines...)
			}
		}
	}
	s := fresh(t, 128)
	s.dir(1, 3, 101, has("a", 2), has("d", 3))
	s.dir(3, 3, 102, has("a", 2), has("e", 4))
	s.dir(4, 2, 103, has("a", 2), has("b", 2))
	s.record(2, plainFile(4, 0))
	s.finds("names in three directories")
	s.record(2, plainFile(3, 0))
	s.finds("one too few", "links 2")
	s.record(2, plainFile(5, 0))
	s.finds("one too many", "links 2")
	s.dir(5, 2, 104, has("z", 2))
	s.finds("one more in a directory that isn't reached", "lost 5")
	s.dir(5, 2, 104, has("z", 2), has("z", 2))
	s.finds("a name that stands twice counts twice", "name 5 z", "links 2", "lost 5")
}

// P19.1: Links of directories: two, and one for each of its own cells that names a directory.
func TestLinksOfDirs(t *testing.T) {
	for inside := range 4 {
		for links := 2; links < 8; links++ {
			s := fresh(t, 128)
			s.dir(1, 3, 101, has("d", 2))
			s.dir(2, links, 102, has("a", 3), has("b", 4), has("c", 5), has("s", 6))
			for k := range 3 {
				if k < inside {
					s.record(3+k, folder(2, 0))
				} else {
					s.record(3+k, plainFile(1, 0))
				}
			}
			s.record(6, linkOf(1, 1, 110))
			s.lay(110, "x")
			if what := fmt.Sprint(inside, " directories inside, Links ", links); links == 2+inside {
				s.finds(what)
			} else {
				s.finds(what, "links 2")
			}
			s.record(1, folder(links, 512, 101))
			if what := fmt.Sprint("the root's Links ", links, ", and so many in what has ", inside); links == 3 && inside == 1 {
				s.finds(what)
			} else if links == 3 {
				s.finds(what, "links 2")
			} else if links == 2+inside {
				s.finds(what, "links 1")
			} else {
				s.finds(what, "links 1", "links 2")
			}
		}
	}
	// How many cells name the directory itself has no weight; cells that name one directory twice count twice; what isn't there doesn't.
	s := fresh(t, 128)
	s.dir(1, 4, 101, has("a", 2), has("b", 2))
	s.record(2, folder(2, 0))
	s.finds("two names of a directory", "parent 2 b")
	s.dir(1, 3, 101, has("a", 2), has("b", 2))
	s.finds("counted once", "parent 2 b", "links 1")
	s.dir(1, 3, 101, has("a", 2), has("b", 9), has("c", 99))
	s.finds("names of what isn't there", "none 1 b", "none 1 c")
	s.dir(1, 3, 101, has("a", 2))
	s.dir(2, 3, 102, has("x", 2))
	s.finds("a directory inside itself", "parent 2 x")
	s.dir(2, 2, 102, has("x", 2))
	s.finds("which isn't counted", "parent 2 x", "links 2")
	s.record(9, folder(4, 0))
	s.finds("Links of a directory that isn't reached", "parent 2 x", "links 2", "lost 9", "links 9")
	s.dir(9, 4, 103, has("p", 10), has("q", 11))
	s.record(10, folder(2, 0))
	s.record(11, folder(3, 0))
	s.finds("and of those inside it", "parent 2 x", "links 2", "lost 9", "lost 10", "lost 11", "links 11")
}

// P19.1: FindLost or FindOrphan, then FindLinks, inode by inode.
func TestLastOrder(t *testing.T) {
	s := fresh(t, 128)
	s.dir(1, 5, 101, has("a", 4))
	s.record(2, plainFile(0, 0))
	s.record(3, plainFile(2, 0))
	s.record(4, plainFile(7, 0))
	s.record(5, folder(2, 0))
	s.record(6, folder(3, 0))
	s.record(7, plainFile(0, 0))
	s.finds("many", "links 1", "orphan 2", "lost 3", "links 3", "links 4", "lost 5", "lost 6", "links 6", "orphan 7")
}
