package acts_test

import (
	"fmt"
	"testing"

	"bole/api"
)

// both makes a Rename held and not held, each on the same world, and lets it be as it was.
func (w *world) both(old, other string, then func(hold bool, n int)) {
	w.t.Helper()
	for _, hold := range []bool{false, true} {
		mark, _ := w.x.Mark()
		c := call{op: "Rename", a: old, b: other, hold: hold}
		n, e := c.on(w.x, w.g)
		if e != api.OK {
			w.t.Errorf("P17.7: %v: %d", c, e)
		}
		then(hold, n)
		want(w.t, "Back", w.x.Back(mark), api.OK)
	}
}

// nothing makes a Rename that changes nothing.
func (w *world) nothing(old, other string) {
	w.t.Helper()
	w.still("P17.7: "+old+" to "+other, func() {
		w.gives(rename(old, other), 0)
		w.gives(held(rename(old, other)), 0)
	})
}

// P17.7: within one directory and from one to another: a name that isn't there.
func TestRenamed(t *testing.T) {
	w := fresh(t, 128)
	w.does(mkdir("/p"), mkdir("/q"), create("/p/f"), symlink("f", "/p/l"), mkdir("/p/d"), create("/p/d/x"), symlink("p", "/s"))
	blocks, inodes := w.room()
	for _, name := range []string{"f", "l", "d"} {
		n := map[string]int{"f": 4, "l": 5, "d": 6}[name]
		w.both("/p/"+name, "/p/new", func(_ bool, m int) {
			w.gone("/p/" + name)
			w.leads("/p/new", n)
			w.links(2, 3)
			w.free(blocks, inodes)
			w.right()
			if m != 0 {
				t.Errorf("P17.7: an orphan %d", m)
			}
		})
		w.both("/s/"+name, "/q/"+name, func(_ bool, m int) {
			w.gone("/p/" + name)
			w.leads("/q/"+name, n)
			w.free(blocks-1, inodes)
			w.right()
			if m != 0 {
				t.Errorf("P17.7: an orphan %d", m)
			}
			if name == "d" {
				w.links(2, 2)
				w.links(3, 3)
			}
		})
		w.both("/p/"+name, "/new", func(bool, int) {
			w.leads("/new", n)
			w.free(blocks, inodes)
			w.right()
			if name == "d" {
				w.links(1, 5)
				w.links(2, 2)
				w.leads("/new/x", 7)
			}
		})
	}
	// Into what lies beside, and out of it again; the record of what is moved stays.
	x := w.record(6)
	w.gives(rename("/p/d", "/q/d"), 0)
	w.gives(rename("/q", "/p/q"), 0)
	w.gives(rename("/p/q/d", "/d/"), 0)
	w.is(6, x)
	w.links(1, 4)
	w.links(2, 3)
	w.links(3, 2)
	w.rightCommitted()
}

// P17.7: the lowest free cell, the one that was freed too; of a name that is there its cell.
func TestRenameCells(t *testing.T) {
	w := fresh(t, 128)
	w.does(create("/a"), create("/b"), create("/c"), create("/d"))
	w.gives(rename("/c", "/x"), 0)
	w.cells(1, api.Entry{Place: 0, Name: "a", Inode: 2}, api.Entry{Place: 1, Name: "b", Inode: 3}, api.Entry{Place: 3, Name: "d", Inode: 5}, api.Entry{Place: 2, Name: "x", Inode: 4})
	w.does(unlink("/a"))
	w.gives(rename("/x", "/y"), 0)
	w.cells(1, api.Entry{Place: 1, Name: "b", Inode: 3}, api.Entry{Place: 3, Name: "d", Inode: 5}, api.Entry{Place: 0, Name: "y", Inode: 4})
	w.gives(rename("/b", "/d"), 0)
	w.cells(1, api.Entry{Place: 3, Name: "d", Inode: 3}, api.Entry{Place: 0, Name: "y", Inode: 4})
	w.gives(rename("/d", "/y"), 0)
	w.cells(1, api.Entry{Place: 0, Name: "y", Inode: 3})
	w.is(4, api.Inode{})
	w.is(5, api.Inode{})
	w.rightCommitted()
}

// P17.7: onto itself, and onto another name of the same inode, by whatever path: nothing changes.
func TestRenameToItself(t *testing.T) {
	w := fresh(t, 128)
	w.does(mkdir("/d"), create("/d/f"), symlink("d", "/l"), link("/d/f", "/g"), link("/l", "/d/m"), mkdir("/d/e"))
	w.again()
	for _, p := range [][2]string{{"/d", "/d"}, {"/d", "//d//"}, {"/d/f", "/l/f"}, {"/d/f", "/g"}, {"/g", "/d/f"}, {"/l", "/l"}, {"/l", "/d/m"}, {"/d/e", "/l/e/"}, {"/d/e/../f", "/d/f"}} {
		w.nothing(p[0], p[1])
	}
	if l := w.x.Written(); len(l) != 0 {
		t.Errorf("P17.7: put is %v", l)
	}
	// Nothing of what the name names is asked.
	w = laid(t, map[int]thing{1: folder(2, has("bad", 8), has("far", 200), has("free", 9), has("bad2", 8), has("far2", 200), has("free2", 9))})
	w.noRecord(8)
	w.nothing("/bad", "/bad")
	w.nothing("/bad", "/bad2")
	w.nothing("/far", "/far2")
	w.nothing("/free2", "/free")
	w.refuses(api.ErrRecord, rename("/bad", "/x"), rename("/bad", "/free"), rename("/free", "/bad"))
	w.refuses(api.ErrInode, rename("/far", "/x"), rename("/far", "/free"), rename("/free", "/far"))
}

// P17.7: onto a file with one name, held and not, and with two; onto a symbolic link.
func TestRenameOver(t *testing.T) {
	for _, old := range []string{"/f", "/l", "/d/f"} {
		w := fresh(t, 128)
		w.does(create("/f"), symlink("f", "/l"), mkdir("/d"), create("/d/f"), create("/one"), create("/two"), link("/two", "/d/two"), symlink("x", "/d/sym"), symlink("x", "/sym2"), link("/sym2", "/d/sym2"))
		w.writes(6, 0, rep("x", 1500))
		w.writes(7, 0, rep("x", 700))
		n := map[string]int{"/f": 2, "/l": 3, "/d/f": 5}[old]
		blocks, inodes := w.room()
		w.both(old, "/one", func(hold bool, m int) {
			w.gone(old)
			w.leads("/one", n)
			if hold {
				if m != 6 {
					t.Errorf("P17.7: the orphan is %d", m)
				}
				w.links(6, 0)
				w.reads(6, rep("x", 1500))
				w.free(blocks, inodes)
				w.right(6)
				return
			}
			if m != 0 {
				t.Errorf("P17.7: the orphan is %d", m)
			}
			w.is(6, api.Inode{})
			w.free(blocks+3, inodes+1)
			w.right()
		})
		for _, other := range []string{"/two", "/d/two"} {
			w.both(old, other, func(_ bool, m int) {
				if m != 0 {
					t.Errorf("P17.7: the orphan is %d", m)
				}
				w.leads(other, n)
				w.links(7, 1)
				w.free(blocks, inodes)
				w.right()
			})
		}
		w.both(old, "/d/sym", func(_ bool, m int) {
			if m != 0 {
				t.Errorf("P17.7: the orphan is %d", m)
			}
			w.is(8, api.Inode{})
			w.free(blocks+1, inodes+1)
			w.right()
		})
		w.both(old, "/d/sym2", func(_ bool, m int) {
			if m != 0 {
				t.Errorf("P17.7: the orphan is %d", m)
			}
			w.links(9, 1)
			w.free(blocks, inodes)
			w.right()
		})
		w.links(n, 1)
		w.refuses(api.ErrIsDir, rename(old, "/d"), held(rename(old, "/d/")))
		w.refuses(api.ErrNotDir, rename("/d", "/one"), rename("/d", "/sym2"), rename("/d", "/two"))
	}
}

// P17.7: a directory onto an empty one, which had names: in its own directory, beside, above, below.
func TestRenameOverDirectory(t *testing.T) {
	w := fresh(t, 256)
	w.does(mkdir("/d"), create("/d/x"), mkdir("/p"), mkdir("/p/e"), mkdir("/e"), mkdir("/p/d"), mkdir("/p/d/y"))
	for i := range 20 {
		w.does(link("/d/x", fmt.Sprint("/e/", i)), link("/d/x", fmt.Sprint("/p/e/", i)))
	}
	w.refuses(api.ErrNotEmpty, rename("/d", "/e"), rename("/d", "/p/e"), rename("/d", "/p"), rename("/p/d", "/d"), rename("/p/d", "/e"), rename("/p/d", "/p"), held(rename("/p/d", "/p/e")))
	for i := range 20 {
		w.does(unlink(fmt.Sprint("/e/", i)), unlink(fmt.Sprint("/p/e/", i)))
	}
	w.again()
	blocks, inodes := w.room()
	for _, c := range []struct {
		old, other string
		n, m       int
		root, p    int
	}{
		{"/d", "/e", 2, 6, 4, 4}, {"/d", "/p/e", 2, 5, 4, 4}, {"/p/d", "/e", 7, 6, 5, 3}, {"/p/d", "/p/e", 7, 5, 5, 3}, {"/e", "/p/e", 6, 5, 4, 4}, {"/p/e", "/e", 5, 6, 5, 3},
	} {
		w.both(c.old, c.other, func(_ bool, orphan int) {
			w.gone(c.old)
			w.leads(c.other, c.n)
			w.is(c.m, api.Inode{})
			w.links(1, c.root)
			w.links(4, c.p)
			w.free(blocks+2, inodes+1)
			w.right()
			if orphan != 0 {
				t.Errorf("P17.7: an orphan %d", orphan)
			}
		})
	}
	w.gives(rename("/p", "/e"), 0)
	w.gives(rename("/d", "/e/e"), 0)
	w.leads("/e/e/x", 3)
	w.rightCommitted()
}

// P17.7: into itself, and into what lies below it, however it is said; a file of that name too.
func TestRenameInside(t *testing.T) {
	w := fresh(t, 128)
	w.does(mkdir("/p"), mkdir("/p/q"), mkdir("/p/q/r"), symlink("p/q", "/l"), symlink("..", "/p/q/up"), create("/f"), mkdir("/e"))
	w.refuses(api.ErrInval, rename("/p", "/p/x"), rename("/p", "/p/q/x"), rename("/p", "/l/x"), rename("/p", "/p/q/r/x"), rename("/p/q", "/l/r/x"), rename("/l/r", "/p/q/r/x"), rename("/p", "/p/q"), rename("/p", "/p/q/r"), rename("/p/q", "/p/q/up/q/x"), rename("/p/q", "/l/r"))
	w.refuses(api.ErrNotDir, rename("/p", "/p/q/up"))
	w.does(create("/p/f"), mkdir("/p/e"))
	w.refuses(api.ErrNotDir, rename("/p", "/p/f"))
	w.refuses(api.ErrInval, rename("/p", "/p/e"))
	w.refuses(api.ErrNotEmpty, rename("/e", "/p"), rename("/p/e", "/p"), rename("/p/q/r", "/p"))
	// A name that begins like it is another one.
	w.does(mkdir("/pp"))
	w.gives(rename("/p", "/pp/p"), 0)
	w.gives(rename("/pp/p/q/r", "/p"), 0)
	w.rightCommitted()
}

// P17.7: the root as what is moved and as where to; ahead of it stand the walks, behind it all else.
func TestRenameTheRoot(t *testing.T) {
	w := fresh(t, 128)
	w.does(mkdir("/d"), create("/f"), symlink("/", "/l"))
	w.refuses(api.ErrBusy, rename("/", "/x"), rename("/", "/f"), rename("/", "/d"), rename("/", "/d/x"), rename("/f", "/"), rename("/d", "//"), rename("/l", "/"), rename("/", "/"), held(rename("//", "/f")))
	w.refuses(api.ErrNone, rename("/", "/x/y"), rename("/x", "/"), rename("/d/x", "/"))
	w.refuses(api.ErrNotDir, rename("/", "/f/y"), rename("/f/x", "/"))
	// A link to it is a link, and what lies behind it is in it.
	w.gives(rename("/l/f", "/l/d/f"), 0)
	w.leads("/d/f", 3)
	w.gives(rename("/l", "/m"), 0)
	for how := range ends {
		w := fresh(t, 128)
		w.noRecord(1)
		w.end(how)
		w.refuses(api.ErrBusy, rename("/", "/"), held(rename("/", "///")))
	}
	// A name of the root, which others have written, is the root too.
	w = laid(t, map[int]thing{1: folder(2, has("root", 1), has("f", 2), has("d", 3)), 2: plainFile(1, ""), 3: folder(2)})
	w.refuses(api.ErrBusy, rename("/root", "/x"), rename("/f", "/root"), rename("/d", "/root"), rename("/root", "/root"), rename("/root", "/f"), rename("/", "/root"))
	w.refuses(api.ErrIsDir, unlink("/root"))
	w.refuses(api.ErrNone, rename("/x", "/root"), rename("/root", "/x/y"))
}

// P17.7: names and paths at fault, the first path's ahead of the second's; the texts of both ahead of both walks.
func TestRenameWalks(t *testing.T) {
	w := fresh(t, 128)
	w.does(mkdir("/d"), create("/f"), symlink("loop", "/loop"))
	errors := map[string]api.Errno{"/x/y": api.ErrNone, "/f/y": api.ErrNotDir, "/loop/y": api.ErrLoop, "/d/x/y": api.ErrNone}
	for a, first := range errors {
		for b, second := range errors {
			w.refuses(first, rename(a, b))
			w.refuses(second, rename("/d", b), rename("/", b), rename("/loop", b))
			w.refuses(api.ErrNone, rename("/x", b), rename("/d/x", b))
		}
		w.refuses(first, rename(a, "/"), rename(a, "/d"), rename(a, "/x"))
	}
	w.refuses(api.ErrNone, rename("/x", "/y"), rename("/x", "/x"), rename("/x", "/d"), rename("/d/x", "/f"))
	for how, code := range ends {
		w := fresh(t, 128)
		w.does(create("/f"))
		w.again()
		w.end(how)
		for s, first := range noPaths {
			w.refuses(first, rename(s, "/f"), rename(s, "/"), rename("/f", s), rename("/", s), rename("/x", s), rename("/x/y", s))
			for other := range noPaths {
				w.refuses(first, rename(s, other))
			}
		}
		if code != api.OK {
			w.refuses(code, rename("/f", "/g"), rename("/f", "/f"), rename("/", "/f"), rename("/f", "/"), rename("/x", "/"))
		}
	}
}

// P17.7: no block free and no free cell: the one that is freed is the new name's; another directory's isn't there. Over a name that is there no cell is wanted.
func TestRenameFull(t *testing.T) {
	w := fresh(t, 192)
	w.does(create("/f"), mkdir("/full"), mkdir("/empty"), mkdir("/one"), create("/one/x"), create("/big"))
	for i := range 16 {
		w.does(link("/f", fmt.Sprint("/full/", i)))
	}
	w.again()
	w.fill(7, 0)
	w.right()
	w.refuses(api.ErrSpace, rename("/f", "/full/x"), rename("/f", "/empty/x"), rename("/empty", "/full/x"), rename("/full/3", "/empty/x"), rename("/one", "/empty/x"), rename("/one/x", "/full/x"))
	w.both("/full/5", "/full/x", func(bool, int) {
		w.right()
		w.leads("/full/x", 2)
		w.refuses(api.ErrExist, create("/full/x"))
	})
	w.both("/one/x", "/full/7", func(bool, int) { w.right() })
	w.both("/full/7", "/one/x", func(hold bool, n int) {
		if hold {
			w.right(6)
			w.free(0, 16)
		} else {
			w.right()
		}
	})
	w.both("/full/9", "/one/y", func(bool, int) {
		w.right()
		w.free(0, 16)
	})
	w.does(unlink("/full/11"))
	w.both("/f", "/full/x", func(bool, int) { w.right() })
	w.both("/empty", "/full/x", func(bool, int) {
		w.right()
		w.links(1, 4)
	})
	w.shrink(7)
	w.both("/f", "/empty/x", func(bool, int) {
		w.right()
		w.free(0, 16)
	})
	w.rightCommitted()
}

// P17.7: a directory of one block with all cells taken, on a disk without a free block: each name can be given another name there.
func TestRenameWithoutRoom(t *testing.T) {
	w := fresh(t, 192)
	w.does(create("/f"), mkdir("/d"))
	for i := range 14 {
		w.does(link("/f", fmt.Sprint("/", i)))
	}
	w.fill(2, 0)
	for _, c := range w.list(1) {
		w.does(rename("/"+c.Name, "/x"))
		w.right()
		w.does(rename("/x", "/"+c.Name))
		w.right()
	}
	if x := w.record(1); x.Size != 512 {
		t.Errorf("P17.7: the root has grown: %v", x)
	}
	w.refuses(api.ErrSpace, rename("/f", "/d/x"), link("/f", "/x"))
	w.rightCommitted()
}

// P17.7, D7: a directory with so many levels below it, into each depth.
func TestRenameDeep(t *testing.T) {
	w := fresh(t, 900)
	w.stem("/a", 32)
	w.does(create("/f"), symlink("f", "/l"), symlink(rep("/a", 32), "/to32"))
	w.again()
	for height := range 5 {
		s := fmt.Sprint("/h", height)
		for i := range height {
			w.does(mkdir(s + rep("/b", i)))
		}
		if height == 0 {
			w.does(mkdir(s))
		} else {
			w.does(create(s + rep("/b", height-1) + "/x"))
		}
		w.again()
		for deep := 26; deep <= 32; deep++ {
			// The name lies in the directory that is deep - 1 deep.
			c := rename(s, rep("/a", deep-1)+"/new")
			if deep+height > 32 {
				w.refuses(api.ErrTooLong, c)
				continue
			}
			mark, _ := w.x.Mark()
			w.gives(c, 0)
			w.right()
			want(t, "Back", w.x.Back(mark), api.OK)
		}
		w.refuses(api.ErrTooLong, rename(s, "/to32/new"))
	}
	for _, old := range []string{"/f", "/l"} {
		w.refuses(api.ErrTooLong, rename(old, "/to32/new"))
		w.both(old, rep("/a", 31)+"/new", func(bool, int) { w.right() })
	}
	// What it stands in place of is as deep.
	w.does(mkdir(rep("/a", 31) + "/e"))
	w.refuses(api.ErrTooLong, rename("/h1", rep("/a", 31)+"/e"))
	w.refuses(api.ErrNotEmpty, rename("/h1", rep("/a", 31)))
	w.both("/h0", rep("/a", 31)+"/e", func(bool, int) { w.right() })
	// The whole stem: it may be renamed where it is, and go no deeper.
	w.does(mkdir("/top"))
	w.refuses(api.ErrTooLong, rename("/a", "/top/a"))
	w.refuses(api.ErrTooLong, rename("/a", "/h0/a"))
	w.both("/a", "/z", func(bool, int) { w.right() })
	w.both("/a", "/top", func(bool, int) { w.right() })
	w.both("/a/a", "/top/a", func(bool, int) { w.right() })
	w.both("/a/a", "/h1/a", func(bool, int) { w.right() })
	w.refuses(api.ErrTooLong, rename("/a/a", "/h2/b/b"))
	w.does(rmdir(rep("/a", 31)+"/e"), rmdir(rep("/a", 32)))
	w.both("/a/a", "/h2/b/b", func(bool, int) { w.right() })
}

// P17.7: ErrTooLong stands behind ErrIsDir, ErrNotDir, ErrInval, ErrNotEmpty, and ahead of ErrSpace.
func TestRenameDeepOrder(t *testing.T) {
	w := fresh(t, 640)
	w.stem("/a", 32)
	w.does(symlink(rep("/a", 31), "/to31"), symlink(rep("/a", 32), "/to32"), create("/f"), mkdir("/d"), create("/d/x"), create("/to31/f"), mkdir("/e"))
	w.again()
	w.refuses(api.ErrIsDir, rename("/f", "/to31/a"))
	w.refuses(api.ErrNotDir, rename("/d", "/to31/f"))
	w.refuses(api.ErrInval, rename("/a", "/to32/x"), rename("/to31/a", "/to32/x"))
	w.refuses(api.ErrTooLong, rename("/d", "/to31/a"), rename("/d", "/to31/x"), rename("/e", "/to32/x"), rename("/f", "/to32/x"))
	w.takeAll()
	w.refuses(api.ErrTooLong, rename("/d", "/to31/x"), rename("/e", "/to32/x"), rename("/f", "/to32/x"))
	w.refuses(api.ErrSpace, rename("/f", "/e/x"), rename("/d", "/e/x"))
}

// P17.7, W7: on a disk that others have written.
func TestRenameWrong(t *testing.T) {
	cells := folder(2, has("x", 9))
	cells.b[511] = 1
	nowhere := folder(2)
	nowhere.x.Size, nowhere.x.Direct[0] = 512, 5
	names := []api.Entry{has("f", 2), has("d", 3), has("cells", 4), has("nowhere", 5), has("free", 6), has("none", 7), has("bad", 8), has("far", 128), has("deepbad", 10), has("ring", 11), has("d2", 12), has("free2", 14)}
	w := laid(t, map[int]thing{1: folder(8, names...), 2: plainFile(1, ""), 3: folder(2), 4: cells, 5: nowhere, 7: plainFile(0, ""), 10: folder(2, has("x", 8)), 11: folder(2, has("x", 11)), 12: folder(2)})
	w.noRecord(8)
	// What is over is read: its record, then whether it has a name.
	w.refuses(api.ErrCell, rename("/d", "/cells"))
	w.refuses(api.ErrPointer, rename("/d", "/nowhere"))
	w.refuses(api.ErrIsDir, rename("/f", "/cells"), rename("/f", "/nowhere"), rename("/free", "/d"))
	w.refuses(api.ErrNotDir, rename("/cells", "/f"), rename("/d", "/free"))
	w.refuses(api.ErrRecord, rename("/f", "/bad"), rename("/d", "/bad"), rename("/bad", "/f"), rename("/bad", "/d"), rename("/bad", "/x"))
	w.refuses(api.ErrInode, rename("/f", "/far"), rename("/far", "/f"), rename("/far", "/x"))
	// How deep the names of a directory go is read; of a ring it has no end.
	w.refuses(api.ErrCell, rename("/cells", "/x"), rename("/cells", "/d"))
	w.refuses(api.ErrPointer, rename("/nowhere", "/x"), rename("/nowhere", "/d/x"))
	w.refuses(api.ErrRecord, rename("/deepbad", "/x"))
	w.refuses(api.ErrTooLong, rename("/ring", "/x"), rename("/ring/x", "/x"))
	// What has Links 0 can't have fewer.
	w.refuses(api.ErrRecord, rename("/f", "/free"), rename("/f", "/none"), held(rename("/f", "/none")), rename("/free2", "/free"))
	// A name of something free is moved like another one's.
	w.gives(rename("/free", "/x"), 0)
	w.leads("/x", 6)
	w.gives(rename("/x", "/d/x"), 0)
	w.gives(rename("/none", "/d/y"), 0)
	w.is(7, api.Inode{Kind: 1})
	w.is(6, api.Inode{})
	w.gives(rename("/free2", "/f"), 0)
	w.is(2, api.Inode{})
	w.leads("/f", 14)
}

// P17.7: the Links of the directory that had it go down first, to what is no record; then the other's go up, to what may be none.
func TestRenameLinks(t *testing.T) {
	for _, c := range []struct {
		from, to   int
		code, over api.Errno
	}{
		{3, 2, api.OK, api.OK}, {2, 2, api.ErrRecord, api.ErrRecord}, {3, 65534, api.OK, api.OK}, {3, 65535, api.ErrRecord, api.ErrRecord}, {65535, 2, api.OK, api.OK},
	} {
		w := laid(t, map[int]thing{1: folder(4, has("p", 2), has("q", 3), has("f", 7)), 2: folder(c.from, has("d", 4), has("f", 7)), 3: folder(c.to, has("e", 5)), 4: folder(2), 5: folder(2), 7: plainFile(2, "")})
		w.gives(rename("/p/f", "/q/f"), 0)
		for other, code := range map[string]api.Errno{"/q/x": c.code, "/q/e": c.over} {
			if code != api.OK {
				w.refuses(code, rename("/p/d", other))
				continue
			}
			mark, _ := w.x.Mark()
			w.gives(rename("/p/d", other), 0)
			w.links(2, c.from-1)
			w.links(3, map[string]int{"/q/x": c.to + 1, "/q/e": c.to}[other])
			want(t, "Back", w.x.Back(mark), api.OK)
		}
	}
	// Within one directory: down, then up.
	for links, code := range map[int]api.Errno{2: api.ErrRecord, 3: api.OK, 65535: api.OK} {
		w := laid(t, map[int]thing{1: folder(links, has("d", 2), has("e", 3)), 2: folder(2), 3: folder(2)})
		if code != api.OK {
			w.refuses(code, rename("/d", "/x"), rename("/d", "/e"))
			continue
		}
		w.gives(rename("/d", "/x"), 0)
		w.links(1, links)
		w.gives(rename("/x", "/e"), 0)
		w.links(1, links-1)
	}
	// Blocks that can't be given back are met ahead of that.
	bad := folder(2, api.Entry{})
	bad.x.Direct[5] = at(61, 0)
	w := laid(t, map[int]thing{1: folder(2, has("d", 2), has("e", 3)), 2: folder(2), 3: bad})
	w.refuses(api.ErrFree, rename("/d", "/e"))
	w.refuses(api.ErrRecord, rename("/d", "/x"))
}
