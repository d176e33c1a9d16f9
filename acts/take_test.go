package acts_test

import (
	"fmt"
	"testing"

	"bole/acts"
	"bole/api"
)

// P17.5: a file with two names, then with one; not held: it goes with the last one, and all its blocks and tables.
func TestUnlinked(t *testing.T) {
	for _, hold := range []bool{false, true} {
		w := fresh(t, 256)
		w.does(create("/f"), mkdir("/d"), link("/f", "/d/g"), create("/h"))
		blocks, inodes := w.room()
		w.writes(2, 0, "a")
		w.writes(2, 11*size, "b")
		w.writes(2, 140*size, "c")
		w.writes(2, 300*size, "d")
		x := w.record(2)
		w.free(blocks-1-2-4-1, inodes)
		w.gives(call{op: "Unlink", a: "/f", hold: hold}, 0)
		x.Links = 1
		w.is(2, x)
		w.gone("/f")
		w.leads("/d/g", 2)
		w.free(blocks-8, inodes)
		w.rightCommitted()
		if hold {
			w.gives(held(unlink("/d/g")), 2)
			x.Links = 0
			w.is(2, x)
			w.gone("/d/g")
			w.free(blocks-8, inodes)
			w.rightCommitted(2)
			w.gives(release(2), 0)
		} else {
			w.gives(unlink("/d/g"), 0)
		}
		w.is(2, api.Inode{})
		w.gone("/d/g")
		w.free(blocks, inodes+1)
		w.rightCommitted()
		w.leads("/h", 4)
		w.cells(3)
	}
}

// P17.5: the directory keeps its blocks, and the cell is the next one's.
func TestUnlinkCells(t *testing.T) {
	w := fresh(t, 256)
	w.does(create("/f"))
	for i := range 40 {
		w.does(link("/f", fmt.Sprint("/", i)))
	}
	x := w.record(1)
	for _, i := range []int{30, 5, 20} {
		w.does(unlink(fmt.Sprint("/", i)))
	}
	w.is(1, x)
	w.links(2, 38)
	w.gives(create("/x"), 3)
	w.gives(link("/x", "/y"), 0)
	w.gives(mkdir("/z"), 4)
	x.Links++
	w.is(1, x)
	places := map[string]int{}
	for _, c := range w.list(1) {
		places[c.Name] = c.Place
	}
	if places["x"] != 6 || places["y"] != 21 || places["z"] != 31 {
		t.Errorf("P17.5: the places are %v", places)
	}
	w.rightCommitted()
}

// P17.5: a symbolic link that loses its last name is gone, held or not; what it leads to is no matter.
func TestUnlinkOfLinks(t *testing.T) {
	for _, hold := range []bool{false, true} {
		w := fresh(t, 128)
		w.does(create("/f"), mkdir("/d"), symlink("f", "/l"), symlink("d", "/m"), symlink("m", "/n"), symlink(rep("/", 1024), "/o"), link("/l", "/d/l"))
		blocks, inodes := w.room()
		unlink := func(s string) call { return call{op: "Unlink", a: s, hold: hold} }
		w.gives(unlink("/l"), 0)
		w.links(4, 1)
		w.free(blocks, inodes)
		w.gives(unlink("/n/l"), 0)
		w.is(4, api.Inode{})
		w.free(blocks+1, inodes+1)
		w.gives(unlink("/m"), 0)
		w.gives(unlink("/n/"), 0)
		w.gives(unlink("/o"), 0)
		w.free(blocks+5, inodes+4)
		w.links(2, 1)
		w.leads("/f", 2)
		w.leads("/d", 3)
		w.orphans()
		w.rightCommitted()
	}
}

// P17.5: directories and the root, names that aren't there, and no paths.
func TestUnlinkRefused(t *testing.T) {
	w := fresh(t, 128)
	w.does(mkdir("/d"), create("/d/f"), symlink("d", "/l"), mkdir("/d/e"), symlink("loop", "/loop"))
	for _, hold := range []bool{false, true} {
		unlink := func(s string) call { return call{op: "Unlink", a: s, hold: hold} }
		w.refuses(api.ErrIsDir, unlink("/"), unlink("//"), unlink("/d"), unlink("/d/"), unlink("/l/e"), unlink("/d/e"))
		w.refuses(api.ErrNone, unlink("/x"), unlink("/d/x"), unlink("/l/x"), unlink("/x/y"))
		w.refuses(api.ErrNotDir, unlink("/d/f/x"))
		w.refuses(api.ErrLoop, unlink("/loop/x"))
		for s, code := range noPaths {
			w.refuses(code, unlink(s))
		}
	}
	w.gives(unlink("/loop"), 0)
	for how, code := range ends {
		w := fresh(t, 128)
		w.does(create("/f"))
		w.again()
		w.end(how)
		w.refuses(api.ErrIsDir, unlink("/"), held(unlink("//")))
		for s, first := range noPaths {
			w.refuses(first, unlink(s))
		}
		if code != api.OK {
			w.refuses(code, unlink("/f"), held(unlink("/f")), unlink("/x"), unlink("/x/y"))
		}
	}
}

// P17.5, W7: a name of what is no record or no inode; of something free, or a file whose Links are 0, there is no record with fewer.
func TestUnlinkWrong(t *testing.T) {
	w := laid(t, map[int]thing{1: folder(2, has("free", 7), has("bad", 8), has("far", 128), has("none", 2), has("root", 1), has("two", 3), has("three", 4)), 2: plainFile(0, ""), 3: plainFile(2, ""), 4: linkTo(1000, "x")})
	w.noRecord(8)
	for _, hold := range []bool{false, true} {
		unlink := func(s string) call { return call{op: "Unlink", a: s, hold: hold} }
		w.refuses(api.ErrRecord, unlink("/bad"), unlink("/free"), unlink("/none"))
		w.refuses(api.ErrInode, unlink("/far"))
		w.refuses(api.ErrIsDir, unlink("/root"))
	}
	w.gives(held(unlink("/two")), 0)
	w.links(3, 1)
	w.gives(held(unlink("/three")), 0)
	w.links(4, 999)
}

// P17.5, P17.6, P17.8, W7: blocks that can't be given back: what the call has put by then is taken back. A file that stays isn't looked at.
func TestDropWrong(t *testing.T) {
	for what, spoil := range map[string]func(w *world, x *api.Inode) api.Errno{
		"below the data":  func(w *world, x *api.Inode) api.Errno { x.Direct[3] = 114; return api.ErrPointer },
		"behind the disk": func(w *world, x *api.Inode) api.Errno { x.Direct[9] = 1024; return api.ErrPointer },
		"One":             func(w *world, x *api.Inode) api.Errno { x.One = 1; return api.ErrPointer },
		"Two":             func(w *world, x *api.Inode) api.Errno { x.Two = 98; return api.ErrPointer },
		"in a table": func(w *world, x *api.Inode) api.Errno {
			x.One = at(60, 0)
			w.turn(at(60, 0), 4*127, 99)
			return api.ErrPointer
		},
		"twice": func(w *world, x *api.Inode) api.Errno { x.Direct[7] = x.Direct[0]; return api.ErrFree },
		"free":  func(w *world, x *api.Inode) api.Errno { x.Direct[5] = at(61, 0); return api.ErrFree },
	} {
		for _, links := range []int{0, 1, 2} {
			w := laid(t, map[int]thing{1: folder(3, has("f", 2), has("l", 3), has("d", 4)), 2: plainFile(max(links, 1), "x"), 3: linkTo(max(links, 1), "x"), 4: folder(2, api.Entry{}), 60: plainFile(0, "\x00")})
			var code api.Errno
			for n := 2; n <= 4; n++ {
				x := w.record(n)
				code = spoil(w, &x)
				if n == 2 && links == 0 {
					x.Links = 0
				}
				w.setRecord(n, x)
			}
			switch links {
			case 0:
				w.refuses(code, release(2))
				w.refuses(code, rmdir("/d"))
			case 1:
				w.refuses(code, unlink("/f"), unlink("/l"), held(unlink("/l")), rmdir("/d"), rename("/l", "/f"), rename("/f", "/l"), held(rename("/f", "/l")))
				w.gives(held(unlink("/f")), 2)
				w.refuses(code, release(2))
			case 2:
				w.gives(unlink("/f"), 0)
				w.gives(unlink("/l"), 0)
			}
			if t.Failed() {
				t.Fatal(what, links)
			}
		}
	}
}

// P17.6: a directory that never had a name, and one that had many; its blocks and tables are free again.
func TestRmdir(t *testing.T) {
	for _, names := range []int{0, 1, 16, 17, 33, 170} {
		w := fresh(t, 256)
		w.does(mkdir("/p"), mkdir("/p/q"), create("/p/f"))
		blocks, inodes := w.room()
		w.gives(mkdir("/p/d"), 5)
		w.links(2, 4)
		for i := range names {
			w.does(link("/p/f", fmt.Sprint("/p/d/", i)))
		}
		w.again()
		for i := range names {
			w.refuses(api.ErrNotEmpty, rmdir("/p/d"))
			w.does(unlink(fmt.Sprint("/p/d/", (i+names/2)%names)))
		}
		grown := (names + 15) / 16
		if grown > 10 {
			grown++
		}
		w.free(blocks-grown, inodes-1)
		w.right()
		w.gives(rmdir("/p/d/"), 0)
		w.is(5, api.Inode{})
		w.gone("/p/d")
		w.links(1, 3)
		w.links(2, 3)
		w.free(blocks, inodes)
		w.rightCommitted()
		w.gives(mkdir("/p/d"), 5)
		w.cells(5)
		w.rightCommitted()
	}
}

// P17.6: which name it has, is no matter.
func TestRmdirNotEmpty(t *testing.T) {
	w := fresh(t, 128)
	w.does(mkdir("/d"))
	for _, c := range []call{create("/d/x"), mkdir("/d/x"), symlink("x", "/d/x")} {
		w.does(c)
		w.refuses(api.ErrNotEmpty, rmdir("/d"))
		w.does(rename("/d/x", "/x"))
		mark, _ := w.x.Mark()
		w.gives(rmdir("/d"), 0)
		w.right()
		want(t, "Back", w.x.Back(mark), api.OK)
		if c.op == "Mkdir" {
			w.does(rmdir("/x"))
		} else {
			w.does(unlink("/x"))
		}
	}
	// A name in the last cell of its second block.
	for place := range 32 {
		l := make([]api.Entry, 32)
		l[place] = has("x", 3)
		w := laid(t, map[int]thing{1: folder(3, has("d", 2)), 2: folder(2, l...), 3: plainFile(1, "")})
		w.refuses(api.ErrNotEmpty, rmdir("/d"))
		w.does(unlink("/d/x"), rmdir("/d"))
		w.right()
	}
}

// P17.6: the root, files and links, names that aren't there, no paths.
func TestRmdirRefused(t *testing.T) {
	w := fresh(t, 128)
	w.does(mkdir("/d"), create("/d/f"), symlink("e", "/d/l"), mkdir("/d/e"), symlink("d", "/l"), symlink("loop", "/loop"))
	w.refuses(api.ErrBusy, rmdir("/"), rmdir("///"))
	w.refuses(api.ErrNotDir, rmdir("/d/f"), rmdir("/d/l"), rmdir("/l"), rmdir("/loop"), rmdir("/d/f/x"), rmdir("/l/f"))
	w.refuses(api.ErrNone, rmdir("/x"), rmdir("/d/x"), rmdir("/x/y"))
	w.refuses(api.ErrLoop, rmdir("/loop/x"))
	w.refuses(api.ErrNotEmpty, rmdir("/d"))
	for s, code := range noPaths {
		w.refuses(code, rmdir(s))
	}
	w.gives(rmdir("/l/e"), 0)
	w.links(2, 2)
	w.rightCommitted()
	for how, code := range ends {
		w := fresh(t, 128)
		w.does(mkdir("/d"))
		w.again()
		w.end(how)
		w.refuses(api.ErrBusy, rmdir("/"))
		for s, first := range noPaths {
			w.refuses(first, rmdir(s))
		}
		if code != api.OK {
			w.refuses(code, rmdir("/d"), rmdir("/x"), rmdir("/d/x"))
		}
	}
}

// P17.6, W7: a name of the root; of what is no record, no inode, free; a directory whose cells can't be; Links of the directory above that can't go down.
func TestRmdirWrong(t *testing.T) {
	names := []api.Entry{has("root", 1), has("free", 7), has("bad", 8), has("far", 128), has("cells", 2), has("number", 3), has("d", 4), has("sub", 5)}
	cells, num := folder(2, has("x", 9)), folder(2)
	cells.b[511] = 1
	num.x.Size, num.x.Direct[0] = 512, 5
	w := laid(t, map[int]thing{1: folder(3, names...), 2: cells, 3: num, 4: folder(2), 5: folder(2, has("e", 6)), 6: folder(2)})
	w.noRecord(8)
	w.refuses(api.ErrBusy, rmdir("/root"), rmdir("/root/root"))
	w.refuses(api.ErrNotDir, rmdir("/free"))
	w.refuses(api.ErrRecord, rmdir("/bad"))
	w.refuses(api.ErrInode, rmdir("/far"))
	w.refuses(api.ErrCell, rmdir("/cells"))
	w.refuses(api.ErrPointer, rmdir("/number"))
	w.refuses(api.ErrRecord, rmdir("/sub/e"))
	w.gives(rmdir("/d"), 0)
	w.links(1, 2)
	w.does(create("/d"), unlink("/d"), mkdir("/d"))
	w.links(1, 3)
}

// P17.6: that the Links can't go down is met ahead of blocks that can't be given back; the directory itself is read ahead of both.
func TestRmdirOrder(t *testing.T) {
	free := folder(2, api.Entry{})
	free.x.Direct[5] = at(61, 0)
	for links, code := range map[int]api.Errno{2: api.ErrRecord, 3: api.ErrFree} {
		w := laid(t, map[int]thing{1: folder(3, has("p", 2)), 2: folder(links, has("d", 3)), 3: free})
		w.refuses(code, rmdir("/p/d"))
		w.turn(at(3, 0), 511, 1)
		w.refuses(api.ErrCell, rmdir("/p/d"))
		w.turn(at(3, 0), 511, 0)
		w.turn(at(3, 0), 0, 9)
		w.turn(at(3, 0), 4, 1)
		w.turn(at(3, 0), 5, 'x')
		w.refuses(api.ErrNotEmpty, rmdir("/p/d"))
	}
}

// P17.8: each kind, with a name and without, and numbers that no inode has.
func TestRelease(t *testing.T) {
	for _, length := range []int{128, 300} {
		w := fresh(t, length)
		w.does(create("/f"), mkdir("/d"), symlink("x", "/l"), create("/g"), link("/g", "/h"), create("/i"), create("/j"))
		w.writes(6, 0, rep("x", 600))
		w.gives(held(unlink("/i")), 6)
		w.gives(held(unlink("/j")), 7)
		w.refuses(api.ErrInval, release(1), release(2), release(3), release(4), release(5))
		w.refuses(api.ErrInode, release(8), release(w.g.Count-1))
		for _, n := range noInodes(w.g) {
			w.refuses(api.ErrInode, release(n))
		}
		blocks, inodes := w.room()
		w.rightCommitted(6, 7)
		w.gives(release(6), 0)
		w.free(blocks+2, inodes+1)
		w.is(6, api.Inode{})
		w.refuses(api.ErrInode, release(6))
		w.rightCommitted(7)
		w.gives(release(7), 0)
		w.free(blocks+2, inodes+2)
		w.rightCommitted()
		w.gives(create("/k"), 6)
		w.refuses(api.ErrInval, release(6))
	}
}

// P17.8: the number is asked first, then the record.
func TestReleaseOrder(t *testing.T) {
	for how, code := range ends {
		w := laid(t, map[int]thing{1: folder(2), 2: plainFile(0, ""), 9: plainFile(0, "")})
		w.noRecord(8)
		w.again()
		w.end(how)
		for _, n := range noInodes(w.g) {
			w.refuses(api.ErrInode, release(n))
		}
		if code == api.OK {
			w.refuses(api.ErrRecord, release(8))
			w.gives(release(2), 0)
			continue
		}
		for n := 1; n < 128; n++ {
			w.refuses(code, release(n))
		}
	}
	// What is wrong elsewhere isn't asked; a file with a name that says it has none is taken at its word.
	w := laid(t, map[int]thing{1: folder(2, has("f", 2)), 2: plainFile(0, "x")})
	w.noRecord(1)
	w.noRecord(3)
	w.gives(release(2), 0)
	w.is(2, api.Inode{})
}

// P17.9: none, one, several, at the edges of the table's blocks; other kinds, free ones and files with names beside them.
func TestOrphans(t *testing.T) {
	w := fresh(t, 128)
	w.orphans()
	for _, l := range [][]int{{1}, {127}, {7, 8}, {1, 2, 3, 126, 127}, {15, 16, 63, 64}, {2, 40}} {
		things := map[int]thing{30: folder(2), 31: linkTo(1, "x"), 32: plainFile(1, "x"), 33: plainFile(1000, ""), 34: folder(5, has("x", 2))}
		for i, n := range l {
			things[n] = plainFile(0, rep("x", 300*i))
		}
		w := laid(t, things)
		w.orphans(l...)
		x := w.record(l[0])
		x.Links = 1
		w.setRecord(l[0], x)
		w.orphans(l[1:]...)
	}
	w = laid(t, nil)
	all := []int{}
	for n := 1; n < 128; n++ {
		w.setRecord(n, api.Inode{Kind: 1, Size: n})
		all = append(all, n)
		w.orphans(all...)
	}
}

// P17.9: the first error, from 1 on; inode 0's bytes may be anything; what lies behind the last one too.
func TestOrphansWrong(t *testing.T) {
	for _, n := range []int{1, 2, 8, 63, 127} {
		w := laid(t, map[int]thing{1: plainFile(0, ""), 2: plainFile(0, ""), 127: plainFile(0, "")})
		w.turn(99, 0, 9)
		w.orphans(1, 2, 127)
		w.noRecord(n)
		w.noOrphans(api.ErrRecord)
		w.end("over")
		w.noOrphans(api.ErrOver)
	}
	// Records that can't be ahead of a block that can't be read, and behind it.
	for bad, code := range map[int]api.Errno{2: api.ErrRecord, 9: api.ErrDown, 100: api.ErrDown} {
		w := laid(t, map[int]thing{1: plainFile(0, "")})
		w.noRecord(bad)
		for i := 99; i < 115; i++ {
			if i != 100 {
				w.lay(i, w.block(i))
			}
		}
		if bad == 9 {
			w.again()
			w.lay(99, w.block(99))
		}
		w.d.Crash(nil)
		w.noOrphans(code)
	}
}

// P17.9, W3: what is told is new memory each time, its spare room too.
func TestOrphansAreNew(t *testing.T) {
	w := laid(t, map[int]thing{1: plainFile(0, ""), 5: plainFile(0, ""), 9: plainFile(0, "")})
	first, _ := acts.Orphans(w.x, w.g)
	second, _ := acts.Orphans(w.x, w.g)
	for i := range first[:cap(first)] {
		first[:cap(first)][i] = 99
	}
	if second[0] != 1 || second[1] != 5 || second[2] != 9 {
		t.Errorf("W3: %v", second)
	}
	_ = append(first[:0], 7, 7, 7, 7)
	w.orphans(1, 5, 9)
}
