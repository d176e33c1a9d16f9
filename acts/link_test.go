package acts_test

import (
	"fmt"
	"testing"

	"bole/api"
)

// P17.4: a file and a symbolic link get names, in any directory; nothing is taken but what cells want.
func TestLinked(t *testing.T) {
	w := fresh(t, 128)
	w.does(create("/f"), mkdir("/d"), mkdir("/d/e"), symlink("d/e", "/l"), symlink("nowhere", "/n"))
	w.writes(2, 0, "bytes")
	w.free(22, 9)
	w.gives(link("/f", "/g"), 0)
	w.links(2, 2)
	w.gives(link("/g", "/l/h"), 0)
	w.links(2, 3)
	w.free(21, 9)
	w.gives(link("/d/e/../../l/h", "//d/./i//"), 0)
	w.links(2, 4)
	for _, s := range []string{"/f", "/g", "/d/e/h", "/d/i"} {
		w.leads(s, 2)
	}
	w.gives(link("/l", "/d/l"), 0)
	w.gives(link("/n", "/d/e/n"), 0)
	w.links(5, 2)
	w.links(6, 2)
	w.leads("/d/l", 5)
	w.leads("/d/e/n", 6)
	w.links(1, 3)
	w.links(3, 3)
	w.links(4, 2)
	w.cells(1, api.Entry{Place: 1, Name: "d", Inode: 3}, api.Entry{Place: 0, Name: "f", Inode: 2}, api.Entry{Place: 4, Name: "g", Inode: 2}, api.Entry{Place: 2, Name: "l", Inode: 5}, api.Entry{Place: 3, Name: "n", Inode: 6})
	w.reads(2, "bytes")
	w.free(21, 9)
	w.rightCommitted()
}

// P17.4: a directory is refused, however one says it.
func TestLinkOfDirectory(t *testing.T) {
	w := fresh(t, 128)
	w.does(mkdir("/d"), mkdir("/d/e"), symlink("d", "/l"), create("/f"))
	for _, old := range []string{"/", "//", "/.", "/..", "/d", "/d/", "/d/.", "/d/..", "/d/e", "/d/e/..", "/l/e", "/l/..", "/l/e/../.."} {
		w.refuses(api.ErrPerm, link(old, "/x"), link(old, "/d/x"), link(old, "/f"), link(old, "/d"), link(old, "/"))
		w.refuses(api.ErrNone, link(old, "/x/y"))
		w.refuses(api.ErrNotDir, link(old, "/f/y"))
		w.refuses(api.ErrInval, link(old, "/d/.."))
	}
	// '.' is no component: this is the link itself.
	w.gives(link("/l/.", "/m"), 0)
	w.links(4, 2)
}

// P17.4: the root's own record says that it is a directory: with nothing of the disk to be asked that error is told.
func TestLinkOfTheRoot(t *testing.T) {
	for how, code := range ends {
		w := fresh(t, 128)
		w.end(how)
		if code == api.OK {
			code = api.ErrPerm
		}
		w.refuses(code, link("/", "/"), link("/..", "//"))
	}
}

// P17.4: a name that is there, and the root, of a file.
func TestLinkToWhatIsThere(t *testing.T) {
	names := []api.Entry{has("file", 2), has("dir", 3), has("link", 4), has("free", 7), has("bad", 8), has("far", 128), has("root", 1)}
	w := laid(t, map[int]thing{1: folder(3, names...), 2: plainFile(1000, ""), 3: folder(2), 4: linkTo(1, "dir")})
	w.noRecord(8)
	for _, old := range []string{"/file", "/link", "/free"} {
		for _, c := range names {
			w.refuses(api.ErrExist, link(old, "/"+c.Name))
		}
		w.refuses(api.ErrExist, link(old, "/"))
	}
	w.refuses(api.ErrRecord, link("/bad", "/x"), link("/bad", "/"), link("/bad", "/dir"))
	w.refuses(api.ErrInode, link("/far", "/x"), link("/far", "/bad"))
	w.refuses(api.ErrPerm, link("/root", "/x"), link("/root", "/dir"), link("/dir", "/bad"))
}

// P17.4: the texts of both paths ahead of all else, the first ahead of the second; the first may end with dots.
func TestLinkNoPath(t *testing.T) {
	dots := map[string]bool{"/.": true, "/..": true, "/a/.": true, "/a/..//": true}
	for how := range ends {
		w := fresh(t, 128)
		w.noRecord(1)
		w.end(how)
		for s, code := range noPaths {
			w.refuses(code, link("/", s), link("/x", s), link("/x/y", s), link("/..", s))
			first := code
			switch {
			case dots[s]:
				continue
			case s == "/"+rep("x", 28)+"/." || s == rep("/x", 33)+"/..":
				first = api.ErrTooLong
			}
			w.refuses(first, link(s, "/x"), link(s, "/"))
			for other := range noPaths {
				w.refuses(first, link(s, other))
			}
		}
	}
	w := fresh(t, 128)
	w.does(mkdir("/a"), create("/f"))
	w.refuses(api.ErrPerm, link("/.", "/x"), link("/..", "/x"), link("/a/.", "/x"), link("/a/..//", "/x"))
	w.refuses(api.ErrNotDir, link("/f/..", "/x"))
	w.gives(link("/f/.", "/x"), 0)
}

// P17.4: the first path's walk ahead of the second's, and both ahead of the kinds.
func TestLinkWalks(t *testing.T) {
	w := fresh(t, 128)
	w.does(mkdir("/d"), create("/f"), symlink("loop", "/loop"))
	errors := map[string]api.Errno{"/x/y": api.ErrNone, "/f/y": api.ErrNotDir, "/loop/y": api.ErrLoop, "/d/x/y": api.ErrNone}
	for a, first := range errors {
		for b, second := range errors {
			w.refuses(first, link(a, b))
			w.refuses(second, link("/d", b), link("/", b), link("/f", b), link("/loop", b))
		}
		w.refuses(first, link(a, "/"), link(a, "/d"), link(a, "/x"))
	}
	w.refuses(api.ErrNone, link("/x", "/f/y"), link("/x", "/"), link("/x", "/x"), link("/d/x", "/loop/y"))
}

// P17.4: Links of 999, 1000; of a file and of a symbolic link. ErrExist comes ahead of ErrLinks.
func TestMostLinks(t *testing.T) {
	for _, o := range []thing{plainFile(999, "text"), linkTo(999, "text")} {
		w := laid(t, map[int]thing{1: folder(3, has("a", 2), has("d", 3)), 2: o, 3: folder(2)})
		w.gives(link("/a", "/b"), 0)
		w.links(2, 1000)
		w.refuses(api.ErrLinks, link("/a", "/c"), link("/b", "/c"), link("/a", "/d/a"))
		w.refuses(api.ErrExist, link("/a", "/b"), link("/b", "/d"), link("/b", "/"), link("/a", "/a"))
		w.gives(unlink("/a"), 0)
		w.links(2, 999)
		w.gives(link("/b", "/c"), 0)
		w.refuses(api.ErrLinks, link("/c", "/a"))
	}
}

// P17.4: a thousand names, each by a call.
func TestThousandNames(t *testing.T) {
	w := fresh(t, 256)
	w.does(create("/f"), mkdir("/d"))
	for i := 1; i < 1000; i++ {
		w.does(link("/f", fmt.Sprint("/d/", i)))
		if i%50 == 0 {
			w.again()
		}
	}
	w.refuses(api.ErrLinks, link("/f", "/d/1000"), link("/d/999", "/x"))
	w.links(2, 1000)
	w.rightCommitted()
	w.does(unlink("/d/500"))
	w.gives(link("/d/999", "/x"), 0)
	w.rightCommitted()
}

// P17.4: 32 deep and 33; ErrLinks ahead of that, ErrSpace behind it.
func TestLinkDeep(t *testing.T) {
	w := fresh(t, 640)
	w.stem("/a", 32)
	w.does(symlink(rep("/a", 31), "/to31"), symlink(rep("/a", 32), "/to32"), create("/f"), create("/to31/f"))
	w.again()
	w.refuses(api.ErrTooLong, link("/f", "/to32/x"), link("/to31/f", "/to32/x"))
	w.gives(link("/f", "/to31/x"), 0)
	w.gives(link("/to31/f", "/x"), 0)
	w.rightCommitted()
	mark, _ := w.x.Mark()
	w.takeAll()
	w.refuses(api.ErrTooLong, link("/f", "/to32/x"))
	x := w.record(36)
	x.Links = 1000
	w.setRecord(36, x)
	w.refuses(api.ErrLinks, link("/f", "/to32/x"))
	w.refuses(api.ErrExist, link("/f", "/to31/a"), link("/f", "/to31/x"))
	want(t, "Back", w.x.Back(mark), api.OK)
	w.right()
}

// P17.4: no free cell and no free block; a free cell; a directory that has no block yet.
func TestLinkFull(t *testing.T) {
	w := fresh(t, 128)
	w.does(create("/f"), mkdir("/d"))
	for i := range 14 {
		w.does(link("/f", fmt.Sprint("/", i)))
	}
	w.fill(2, 0)
	w.refuses(api.ErrSpace, link("/f", "/x"), link("/f", "/d/x"))
	w.refuses(api.ErrExist, link("/f", "/d"))
	w.does(unlink("/3"))
	w.refuses(api.ErrSpace, link("/f", "/d/x"))
	w.gives(link("/f", "/x"), 0)
	w.links(2, 15)
	w.rightCommitted()
	w.shrink(2)
	w.gives(link("/f", "/d/x"), 0)
	w.refuses(api.ErrSpace, link("/f", "/y"))
	w.rightCommitted()
}

// P17.4, W7: what a name of something free would be is no record; what a file's blocks are isn't asked. No room is told ahead of it.
func TestLinkWrong(t *testing.T) {
	bad := plainFile(1, "")
	bad.x.Direct[0], bad.x.One, bad.x.Two = 5, 6, 7
	bad.x.Size = 100000
	names := []api.Entry{has("free", 50), has("bad", 2), has("none", 3), has("link", 4)}
	empty := linkTo(1, "x")
	empty.x.Direct[0] = 5
	things := map[int]thing{1: folder(3, names...), 2: bad, 3: plainFile(0, ""), 4: empty}
	w := laid(t, things)
	w.refuses(api.ErrRecord, link("/free", "/x"))
	w.gives(link("/bad", "/x"), 0)
	w.links(2, 2)
	w.gives(link("/none", "/y"), 0)
	w.links(3, 1)
	w.gives(link("/link", "/z"), 0)
	w.links(4, 2)

	things[1] = folder(3, append(names, many("n", 12, 2)...)...)
	w = laid(t, things)
	w.takeAll()
	w.refuses(api.ErrSpace, link("/free", "/x"), link("/bad", "/x"))
}
