package walk_test

import (
	"fmt"
	"testing"

	"bole/api"
	"bole/walk"
)

// grove is a right disk: /d (2), /d/e (4), /d/e/h (6, a file), /d/g (5, a file), /f (3, a file), and links: in the root from 20 on, in /d/e from 60 on, each with its own name and text.
func grove(t *testing.T, inRoot, inE []string) *world {
	t.Helper()
	root := []api.Entry{has("d", 2), has("f", 3)}
	e := []api.Entry{has("h", 6)}
	things := map[int]thing{2: folder(has("e", 4), has("g", 5)), 3: plainFile("x"), 5: plainFile("y"), 6: plainFile("")}
	for i, text := range inRoot {
		things[20+i] = linkTo(text)
		root = append(root, has(linkName(i), 20+i))
	}
	for i, text := range inE {
		things[60+i] = linkTo(text)
		e = append(e, has(linkName(i), 60+i))
	}
	things[1], things[4] = folder(root...), folder(e...)
	return laid(t, things)
}

func linkName(i int) string { return fmt.Sprint("k", i) }

// nothing are paths that ask for nothing on the disk.
var nothing = []string{
	"/", "//", "/.", "/./", "/./.", rep("/", 1024), rep("/.", 512), rep("/.", 33),
	"/..", "/../..", "/../", "/./..", "/.././", "//..//..//", rep("/..", 32),
}

// P16.1: a path without components, and '..' at the root: the root itself, whatever is wrong with it, and also where nothing can be read.
func TestNothingToAsk(t *testing.T) {
	for how := range ends {
		w := example(t)
		w.noRecord(1)
		w.end(how)
		w.still(func() {
			for _, s := range nothing {
				w.to(s, itself(1))
			}
		})
	}
}

// P16.1: '.' is let go, '..' takes the last of the row away, at each place of a path; slashes more than one mean nothing.
func TestDots(t *testing.T) {
	w := grove(t, nil, nil)
	w.still(func() {
		for s, p := range map[string]walk.Place{
			"/d": place("d", 2, 1), "//d": place("d", 2, 1), "/./d": place("d", 2, 1), "/d/.": place("d", 2, 1), "/d/": place("d", 2, 1), "/d///.//": place("d", 2, 1),
			"/../d": place("d", 2, 1), "/../../d/e": place("e", 4, 1, 2), "/d/../d": place("d", 2, 1), "/d/../../../d/./e": place("e", 4, 1, 2), "/../f": place("f", 3, 1),
			"/d/e": place("e", 4, 1, 2), "/d/./e": place("e", 4, 1, 2), "/d/e/h": place("h", 6, 1, 2, 4), "/d/g": place("g", 5, 1, 2), "/f": place("f", 3, 1),
			"/d/e/../g": place("g", 5, 1, 2), "/d/e/../../f": place("f", 3, 1), "/d/e/../e/../e/h": place("h", 6, 1, 2, 4),
			"/d/..": itself(1), "/d/../": itself(1), "/d/../.": itself(1), "/d/e/..": itself(1, 2), "/d/e/../..": itself(1), "/d/e/../../..": itself(1), "/d/e/../../../d/..": itself(1), "/d/e/./..": itself(1, 2),
		} {
			w.to(s, p)
		}
	})
}

// P16.1: a file leads nowhere, whatever component stands behind it; '.' and slashes are none. The first fault from the left is told.
func TestBehindAFile(t *testing.T) {
	w := grove(t, nil, nil)
	w.still(func() {
		for _, s := range []string{"/f/x", "/f/..", "/f/../d", "/f/./x", "/f//x", "/f/x/y", "/d/g/x", "/d/g/..", "/d/e/h/../h", "/f/f", "/d/../f/.."} {
			w.noTo(s, api.ErrNotDir)
		}
		for _, s := range []string{"/f/", "/f/.", "/f/./", "/f//.//./"} {
			w.to(s, place("f", 3, 1))
		}
		for _, s := range []string{"/x", "/x/", "/x/..", "/x/y/../..", "/d/x", "/d/x/../f/y", "/d/e/f", "/x/../f/y", "/D", "/d ", "/dd", "/e", "/h", "/..d", "/..."} {
			w.noTo(s, api.ErrNone)
		}
	})
}

// P16.1: names of each length and of odd bytes.
func TestNames(t *testing.T) {
	var l []api.Entry
	for i, s := range []string{"...", "....", "..a", ".a", "a.", "-", " ", "\xff", "\x80", "\x01", "ä", "a\\b", "\n", "*", rep(".", 27), rep("\xff", 27), rep("x", 27), rep("x", 26), "x"} {
		l = append(l, has(s, 2+i))
	}
	w := laid(t, map[int]thing{1: folder(l...)})
	for _, c := range l {
		w.to("/"+c.Name, place(c.Name, c.Inode, 1))
		w.to("/../"+c.Name+"/.", place(c.Name, c.Inode, 1))
		w.noTo("/"+c.Name+"/x", api.ErrNotDir)
		w.make("/"+c.Name, place(c.Name, c.Inode, 1))
	}
}

// P16.1: a path of 32 components, and one of 1024 bytes.
func TestLongPaths(t *testing.T) {
	deep := rep("n", 27)
	things := map[int]thing{}
	chain := []int{}
	for n := 1; n <= 40; n++ {
		things[n] = folder(has(deep, n+1))
		chain = append(chain, n)
	}
	w := laid(t, things)
	w.to(rep("/"+deep, 32), place(deep, 33, chain[:32]...))
	w.to(rep("/"+deep, 31)+"/..", itself(chain[:31]...))
	s := rep("/"+deep, 32) + rep("/", 1024-32*28)
	w.to(s, place(deep, 33, chain[:32]...))
	w.make(s, place(deep, 33, chain[:32]...))
	w.noTo(s+"/", api.ErrTooLong)
	w.noTo(rep("/"+deep, 33), api.ErrTooLong)
}

// P16.1: a link at the end of a path is followed or not, as the call says; '.' and slashes behind it are no components.
func TestLinkAtTheEnd(t *testing.T) {
	ends := map[string]walk.Place{
		"d": place("d", 2, 1), "/d": place("d", 2, 1), "./d/.": place("d", 2, 1), "d/e": place("e", 4, 1, 2), "f": place("f", 3, 1), "//f//": place("f", 3, 1), "d/e/../g": place("g", 5, 1, 2),
		"..": itself(1), "../..": itself(1), "d/..": itself(1), "d/e/..": itself(1, 2), "/": itself(1), ".": itself(1), "./.": itself(1), "///": itself(1), "/.": itself(1), "../d/e/h": place("h", 6, 1, 2, 4),
	}
	for text, p := range ends {
		w := grove(t, []string{text}, nil)
		w.still(func() {
			for _, s := range []string{"/k0", "/k0/", "/k0/.", "/k0//./", "/../k0", "/d/../k0"} {
				w.toward(s, true, p, api.OK)
				w.toward(s, false, place("k0", 20, 1), api.OK)
			}
		})
	}
	for text, code := range map[string]api.Errno{"x": api.ErrNone, "/x": api.ErrNone, "x/..": api.ErrNone, "f/x": api.ErrNotDir, "f/..": api.ErrNotDir, "d/e/x": api.ErrNone, "k0": api.ErrLoop, "k0/x": api.ErrLoop, "d/../k0": api.ErrLoop} {
		w := grove(t, []string{text}, nil)
		w.still(func() {
			w.toward("/k0", true, walk.Place{}, code)
			w.toward("/k0", false, place("k0", 20, 1), api.OK)
			w.noTo("/k0/x", code)
		})
	}
}

// P16.1: a link's text leads on from the directory that has the link, or from the root; '..' behind it is of where one truly is then.
func TestLinkFromWhere(t *testing.T) {
	for text, p := range map[string]walk.Place{
		"h": place("h", 6, 1, 2, 4), "../g": place("g", 5, 1, 2), "../e": place("e", 4, 1, 2), "../../f": place("f", 3, 1), "../../../f": place("f", 3, 1),
		".": itself(1, 2, 4), "./": itself(1, 2, 4), "..": itself(1, 2), "../..": itself(1), "../../..": itself(1), "../../../..": itself(1),
		"/": itself(1), "/..": itself(1), "/d": place("d", 2, 1), "/d/e": place("e", 4, 1, 2), "/d/e/..": itself(1, 2), "/f": place("f", 3, 1),
	} {
		w := grove(t, nil, []string{text})
		w.still(func() {
			w.toward("/d/e/k0", true, p, api.OK)
			w.toward("/d/e/k0", false, place("k0", 60, 1, 2, 4), api.OK)
		})
	}
	w := grove(t, nil, []string{"..", "/", ".", "../../d/e", "/d"})
	w.still(func() {
		w.to("/d/e/k0/g", place("g", 5, 1, 2))
		w.to("/d/e/k0/..", itself(1))
		w.to("/d/e/k0/../f", place("f", 3, 1))
		w.to("/d/e/k0/e/k0/e/h", place("h", 6, 1, 2, 4))
		w.to("/d/e/k1/f", place("f", 3, 1))
		w.to("/d/e/k1/..", itself(1))
		w.to("/d/e/k1/d/e/k1/..", itself(1))
		w.to("/d/e/k2/h", place("h", 6, 1, 2, 4))
		w.to("/d/e/k2/..", itself(1, 2))
		w.to("/d/e/k3/h", place("h", 6, 1, 2, 4))
		w.to("/d/e/k3/..", itself(1, 2))
		w.to("/d/e/k3/../..", itself(1))
		w.to("/d/e/k4/..", itself(1))
		w.to("/d/e/k4/g", place("g", 5, 1, 2))
	})
}

// P16.1: a link in the midst is followed, to whatever it leads: a directory, a file, another link, nothing.
func TestLinkInTheMidst(t *testing.T) {
	w := grove(t, []string{"d", "f", "k0", "x", "d/e", "/k4/..", "k2/e", "."}, nil)
	w.still(func() {
		w.to("/k0/e", place("e", 4, 1, 2))
		w.to("/k0/e/h", place("h", 6, 1, 2, 4))
		w.to("/k0/..", itself(1))
		w.noTo("/k0/x", api.ErrNone)
		w.noTo("/k0/x/y", api.ErrNone)
		w.noTo("/k1/x", api.ErrNotDir)
		w.noTo("/k1/..", api.ErrNotDir)
		w.toward("/k1/.", false, place("k1", 21, 1), api.OK)
		w.to("/k2/g", place("g", 5, 1, 2))
		w.noTo("/k2/g/x", api.ErrNotDir)
		w.noTo("/k3/x", api.ErrNone)
		w.noTo("/k3/..", api.ErrNone)
		w.to("/k4/h", place("h", 6, 1, 2, 4))
		w.to("/k4/../g", place("g", 5, 1, 2))
		w.to("/k5/g", place("g", 5, 1, 2))
		w.to("/k6/h", place("h", 6, 1, 2, 4))
		w.to("/k7/k7/k7/f", place("f", 3, 1))
		w.toward("/k7/k0", true, place("d", 2, 1), api.OK)
		w.toward("/k7/k0", false, place("k0", 20, 1), api.OK)
	})
}

// chainOfLinks is links from the root's k0 on, each to the next; the last one to this text.
func chainOfLinks(t *testing.T, count int, text string) *world {
	t.Helper()
	var l []string
	for i := range count - 1 {
		l = append(l, linkName(i+1))
	}
	return grove(t, append(l, text), nil)
}

// P16.1: eight links are followed, the ninth is ErrLoop; in the midst and at the end, one behind another or one in another.
func TestEightLinks(t *testing.T) {
	for count := 1; count <= 12; count++ {
		w := chainOfLinks(t, count, "d")
		p, q, code := place("d", 2, 1), place("e", 4, 1, 2), api.OK
		if count > 8 {
			p, q, code = walk.Place{}, walk.Place{}, api.ErrLoop
		}
		w.still(func() {
			w.toward("/k0", true, p, code)
			w.toward("/k0", false, place("k0", 20, 1), api.OK)
			w.toward("/k0/e", true, q, code)
			w.toward("/k0/e", false, q, code)
		})
	}
	w := grove(t, []string{"d", ".", "k1/k1/k1/k0"}, []string{"/d"})
	w.still(func() {
		w.to(rep("/k0/..", 8), itself(1))
		w.noTo(rep("/k0/..", 9), api.ErrLoop)
		w.to(rep("/k1", 8)+"/f", place("f", 3, 1))
		w.noTo(rep("/k1", 9)+"/f", api.ErrLoop)
		w.toward(rep("/k1", 9), false, place("k1", 21, 1), api.OK)
		w.toward(rep("/k1", 9), true, walk.Place{}, api.ErrLoop)
		w.toward(rep("/k1", 8), true, itself(1), api.OK)
		w.to("/k2/../k1/k1/k0/g", place("g", 5, 1, 2))
		w.noTo("/k2/../k1/k1/k1/k0/g", api.ErrLoop)
		w.to("/d"+rep("/e/k0", 8)+"/..", itself(1))
		w.noTo("/d"+rep("/e/k0", 9)+"/..", api.ErrLoop)
	})
}

// P16.1: links that lead round: to themselves, to one another, with ever more components behind them. What lies behind the ninth isn't asked.
func TestLinksThatLeadRound(t *testing.T) {
	for _, texts := range [][]string{
		{"k0"}, {"/k0"}, {"./k0/"}, {"k0/x"}, {"k0/.."}, {"d/../k0"}, {"d/e/../../k0/x/y"}, {rep("k0/", 32)}, {"/" + rep("k0/", 32)},
		{"k1", "k0"}, {"k1/x", "/k0/y"}, {"k1", "k2", "/k0"}, {"k1/k2/x", "k2/k0", "../k0/k1"},
	} {
		w := grove(t, texts, nil)
		w.still(func() {
			w.toward("/k0", true, walk.Place{}, api.ErrLoop)
			w.toward("/k0", false, place("k0", 20, 1), api.OK)
			for _, s := range []string{"/k0/x", "/k0/..", "/k0/k0", "/d/../k0/d"} {
				w.noTo(s, api.ErrLoop)
			}
		})
	}
}

// P16.1: the count is of one walk: the next one begins with none.
func TestCountOfOneWalk(t *testing.T) {
	w := chainOfLinks(t, 8, "d")
	for range 5 {
		w.toward("/k0", true, place("d", 2, 1), api.OK)
		w.make("/k0/z", place("z", 0, 1, 2))
	}
}

// P16.1: a text of 1024 bytes is read whole; one of more stands in no record.
func TestLongTexts(t *testing.T) {
	for text, p := range map[string]walk.Place{
		rep("/", 1023) + "d": place("d", 2, 1), rep("./", 511) + "..": itself(1), rep("./", 510) + "d/e/": place("e", 4, 1, 2), rep("/", 1024): itself(1), rep(".", 1) + rep("/", 1023): itself(1),
		rep("/", 512) + "d" + rep("/", 510) + "e": place("e", 4, 1, 2), rep("/", 510) + "d/e" + rep("/", 511): place("e", 4, 1, 2), rep("./", 256) + "d": place("d", 2, 1), rep("./", 255) + "d/e": place("e", 4, 1, 2),
	} {
		w := grove(t, []string{text}, nil)
		w.toward("/k0", true, p, api.OK)
		if p.Inode == 2 {
			w.to("/k0/g", place("g", 5, 1, 2))
		}
	}
	w := grove(t, []string{rep("/", 1023) + "d"}, nil)
	b := w.block(w.g.Inodes + 20/8)
	b[20%8*64+4] = 1
	w.lay(w.g.Inodes+20/8, b)
	w.noTo("/k0", api.ErrRecord)
	w.noTo("/k0/g", api.ErrRecord)
}

// P16.1: only the text's bytes count, not those behind them in its block.
func TestTextEnds(t *testing.T) {
	w := grove(t, []string{"d/e/h/x/y"}, nil)
	for length, p := range map[int]walk.Place{1: place("d", 2, 1), 2: place("d", 2, 1), 3: place("e", 4, 1, 2), 5: place("h", 6, 1, 2, 4)} {
		x := w.record(20)
		x.Size = length
		w.setRecord(20, x)
		w.toward("/k0", true, p, api.OK)
	}
	x := w.record(20)
	x.Size = 7
	w.setRecord(20, x)
	w.toward("/k0", true, walk.Place{}, api.ErrNotDir)
}

// P16.1: what path.Text says of a text that it doesn't take.
func TestTextsThatCantBe(t *testing.T) {
	for text, code := range map[string]api.Errno{
		"\x00": api.ErrInval, "d\x00": api.ErrInval, "\x00d": api.ErrInval, "d/\x00/e": api.ErrInval, "/d" + rep("/", 1000) + "\x00": api.ErrInval, rep("x", 28) + "\x00": api.ErrInval, rep("x/", 33) + "\x00": api.ErrInval,
		rep("x", 28): api.ErrTooLong, "d/" + rep("x", 28) + "/..": api.ErrTooLong, rep("d/../", 17): api.ErrTooLong, rep("../", 33): api.ErrTooLong, "/" + rep("x/", 33): api.ErrTooLong, rep("x", 1024): api.ErrTooLong,
	} {
		w := grove(t, []string{text}, nil)
		w.still(func() {
			w.toward("/k0", true, walk.Place{}, code)
			w.toward("/k0", false, place("k0", 20, 1), api.OK)
			w.noTo("/k0/x", code)
			w.noMake("/k0/x", code)
			w.make("/k0", place("k0", 20, 1))
		})
	}
	for _, length := range []int{1, 511, 512, 513, 1024} {
		w := grove(t, []string{"d"}, nil)
		w.setRecord(20, api.Inode{Kind: 3, Links: 1, Size: length})
		w.toward("/k0", true, walk.Place{}, api.ErrInval)
		w.noTo("/k0/..", api.ErrInval)
	}
}

// P16.1: of the path and of the texts any number of components may come together: only each by itself has an end.
func TestManyComponents(t *testing.T) {
	things := map[int]thing{1: folder(has("me", 1), has("k", 3)), 3: linkTo(rep("me/", 32))}
	w := laid(t, things)
	chain := []int{1}
	for range 8*32 + 24 {
		chain = append(chain, 1)
	}
	w.still(func() {
		w.to(rep("/k", 8)+rep("/me", 24), place("me", 1, chain[:8*32+24]...))
		w.toward(rep("/k", 8), true, place("me", 1, chain[:8*32]...), api.OK)
		w.to(rep("/k", 8)+"/..", itself(chain[:8*32]...))
		w.to(rep("/k", 7)+rep("/..", 25), itself(chain[:7*32-24]...))
		w.make(rep("/k", 8)+rep("/me", 23)+"/z", place("z", 0, chain[:8*32+24]...))
	})
}

// W7: what stands on the disk is taken as it is: a directory inside itself, with several names, the root below another one.
func TestRowOnAWrongDisk(t *testing.T) {
	w := laid(t, map[int]thing{1: folder(has("d", 2), has("x", 2), has("r", 1)), 2: folder(has("me", 2), has("root", 1), has("f", 3)), 3: plainFile("")})
	w.still(func() {
		w.to("/d/me/me/root/d", place("d", 2, 1, 2, 2, 2, 1))
		w.to("/d/me/me/root/..", itself(1, 2, 2, 2))
		w.to("/d/me/me/root/../..", itself(1, 2, 2))
		w.to("/x/me/f", place("f", 3, 1, 2, 2))
		w.to("/r/r/r", place("r", 1, 1, 1, 1))
		w.to("/r/r/..", itself(1, 1))
		w.to("/r/../..", itself(1))
		w.make("/r/x/root/z", place("z", 0, 1, 1, 2, 1))
	})
}

// W7: a name of a free inode is a name; but it leads no further. A name that stands twice is the one of the lower place.
func TestOddNames(t *testing.T) {
	w := laid(t, map[int]thing{1: folder(has("z", 60), has("twice", 3), has("twice", 2), has("other", 2), has("other", 3)), 2: folder(has("f", 3)), 3: plainFile("")})
	w.still(func() {
		w.to("/z", place("z", 60, 1))
		w.noTo("/z/x", api.ErrNotDir)
		w.noTo("/z/..", api.ErrNotDir)
		w.noMake("/z/x", api.ErrNotDir)
		w.make("/z", place("z", 60, 1))
		w.to("/twice", place("twice", 3, 1))
		w.noTo("/twice/f", api.ErrNotDir)
		w.to("/other", place("other", 2, 1))
		w.to("/other/f", place("f", 3, 1, 2))
	})
}

// W7: names of numbers that no inode has.
func TestNamesOfNoInode(t *testing.T) {
	for _, n := range []int{128, 129, 1 << 16, 1<<16 + 2, 1<<32 - 1} {
		w := laid(t, map[int]thing{1: folder(has("z", n), has("d", 2)), 2: folder()})
		w.still(func() {
			w.noTo("/z", api.ErrInode)
			w.noTo("/z/x", api.ErrInode)
			w.noTo("/d/../z/..", api.ErrInode)
			w.noMake("/z/x", api.ErrInode)
			w.make("/z", place("z", n, 1))
			w.to("/d", place("d", 2, 1))
			w.noHeight("a name of no inode", 1, api.ErrInode)
			w.height("beside it", 2, 0)
		})
	}
}

// W7: the root may be anything.
func TestRootThatIsNone(t *testing.T) {
	for what, o := range map[string]thing{"a file": plainFile("x"), "a link": linkTo("/d")} {
		w := laid(t, map[int]thing{1: o, 2: folder()})
		w.noTo("/d", api.ErrNotDir)
		w.noTo("/d/..", api.ErrNotDir)
		w.noMake("/d", api.ErrNotDir)
		w.noMake("/d/e", api.ErrNotDir)
		w.noHeight(what, 1, api.ErrNotDir)
		w.to("/", itself(1))
		w.make("/", itself(1))
	}
	w := laid(t, map[int]thing{2: folder()})
	w.noTo("/d", api.ErrInode)
	w.noMake("/d", api.ErrInode)
	w.noMake("/d/e", api.ErrInode)
	w.to("/..", itself(1))
	w.noHeight("free", 1, api.ErrNotDir)
}
