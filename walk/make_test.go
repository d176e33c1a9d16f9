package walk_test

import (
	"testing"

	"bole/api"
)

// P16.2: a path without components: the root, and nothing is asked.
func TestMakeOfTheRoot(t *testing.T) {
	for how := range ends {
		w := example(t)
		w.noRecord(1)
		w.end(how)
		w.still(func() {
			for _, s := range []string{"/", "//", "////", rep("/", 1024)} {
				w.make(s, itself(1))
			}
			for _, s := range []string{"/.", "/./", "/..", "/../", "/./.", "/../..", rep("/.", 512), "/a/.", "/a/./", "/a/..", "/a/..//", "/x/..", "/a/b/./"} {
				w.noMake(s, api.ErrInval)
			}
		})
	}
}

// P16.2: a name that is there, one that isn't, behind names, '.', '..'.
func TestMake(t *testing.T) {
	w := grove(t, []string{"d", "nothing", "k2"}, []string{"../g"})
	w.still(func() {
		w.make("/d", place("d", 2, 1))
		w.make("/d/", place("d", 2, 1))
		w.make("/z", place("z", 0, 1))
		w.make("//z//", place("z", 0, 1))
		w.make("/./z", place("z", 0, 1))
		w.make("/../z", place("z", 0, 1))
		w.make("/../d", place("d", 2, 1))
		w.make("/f", place("f", 3, 1))
		w.make("/f/", place("f", 3, 1))
		w.make("/d/e", place("e", 4, 1, 2))
		w.make("/d/e/h", place("h", 6, 1, 2, 4))
		w.make("/d/e/z", place("z", 0, 1, 2, 4))
		w.make("/d/e/../z", place("z", 0, 1, 2))
		w.make("/d/e/../../z", place("z", 0, 1))
		w.make("/d/e/../../../f", place("f", 3, 1))
		w.make("/d/./e/./g", place("g", 0, 1, 2, 4))
		w.make("/d/"+rep("z", 27), place(rep("z", 27), 0, 1, 2))
		w.make("/...", place("...", 0, 1))
		for _, s := range []string{"/x/y", "/x/y/z", "/d/x/y", "/x/../y", "/d/e/x/../y", "/k1/y", "/k1/../y"} {
			w.noMake(s, api.ErrNone)
		}
		for _, s := range []string{"/f/y", "/f/../y", "/f/./y", "/d/g/y", "/d/g/x/y", "/d/e/h/y", "/d/e/k0/y"} {
			w.noMake(s, api.ErrNotDir)
		}
		for _, s := range []string{"/k2/y", "/k2/../y"} {
			w.noMake(s, api.ErrLoop)
		}
	})
}

// P16.2: a link's own name is told, wherever it leads; one ahead of the last component is followed.
func TestMakeAtLinks(t *testing.T) {
	w := grove(t, []string{"d", "f", "k0/e", "x", "/", ".", "k2/.."}, []string{"..", "/d"})
	w.still(func() {
		for i := range 7 {
			w.make("/"+linkName(i), place(linkName(i), 20+i, 1))
			w.make("/d/../"+linkName(i)+"/", place(linkName(i), 20+i, 1))
		}
		w.make("/k0/e", place("e", 4, 1, 2))
		w.make("/k0/z", place("z", 0, 1, 2))
		w.make("/k0/../z", place("z", 0, 1))
		w.noMake("/k1/z", api.ErrNotDir)
		w.make("/k2/h", place("h", 6, 1, 2, 4))
		w.make("/k2/k0", place("k0", 60, 1, 2, 4))
		w.make("/k2/k0/z", place("z", 0, 1, 2))
		w.make("/k2/k1/e/z", place("z", 0, 1, 2, 4))
		w.noMake("/k3/z", api.ErrNone)
		w.make("/k4/z", place("z", 0, 1))
		w.make("/k5/k4", place("k4", 24, 1))
		w.make("/k6/g", place("g", 5, 1, 2))
		w.make("/d/e/k0/../z", place("z", 0, 1))
	})
}

// P16.2: eight links ahead of the last component, and nine; the last one isn't followed and doesn't count.
func TestMakeEightLinks(t *testing.T) {
	for count := 1; count <= 12; count++ {
		w := chainOfLinks(t, count, "d")
		w.make("/k0", place("k0", 20, 1))
		if count > 8 {
			w.noMake("/k0/e", api.ErrLoop)
			w.noMake("/k0/z", api.ErrLoop)
		} else {
			w.make("/k0/e", place("e", 4, 1, 2))
			w.make("/k0/z", place("z", 0, 1, 2))
		}
	}
	w := grove(t, []string{"."}, nil)
	w.make(rep("/k0", 9), place("k0", 20, 1))
	w.make(rep("/k0", 8)+"/z", place("z", 0, 1))
	w.noMake(rep("/k0", 10), api.ErrLoop)
	w.noMake(rep("/k0", 9)+"/z", api.ErrLoop)
}

// P16.2: the record that the last name names isn't read.
func TestMakeReadsNoRecord(t *testing.T) {
	w := laid(t, map[int]thing{1: folder(has("d", 2), has("no", 9), has("far", 4000)), 2: folder(has("no", 9), has("free", 10))})
	w.noRecord(9)
	w.still(func() {
		w.make("/no", place("no", 9, 1))
		w.make("/far", place("far", 4000, 1))
		w.make("/d/no", place("no", 9, 1, 2))
		w.make("/d/free", place("free", 10, 1, 2))
		w.noMake("/no/z", api.ErrRecord)
		w.noMake("/d/no/../z", api.ErrRecord)
		w.noMake("/far/z", api.ErrInode)
		w.noTo("/no", api.ErrRecord)
		w.noTo("/d/no", api.ErrRecord)
	})
}

// P16.2: 32 components, the last one with them; a name of 27 bytes.
func TestMakeLong(t *testing.T) {
	things := map[int]thing{}
	chain := []int{}
	for n := 1; n <= 40; n++ {
		things[n] = folder(has("n", n+1))
		chain = append(chain, n)
	}
	w := laid(t, things)
	w.make(rep("/n", 32), place("n", 33, chain[:32]...))
	w.make(rep("/n", 31)+"/z", place("z", 0, chain[:32]...))
	w.noMake(rep("/n", 33), api.ErrTooLong)
	w.noMake(rep("/n", 32)+"/z", api.ErrTooLong)
	w.noMake("/"+rep("z", 28), api.ErrTooLong)
	w.noMake("/n/"+rep("z", 28)+"/z", api.ErrTooLong)
	w.noMake(rep("/n", 40)+"/..", api.ErrInval)
}
