package acts_test

import (
	"fmt"
	"testing"

	"bole/api"
)

// makers are the three calls that make an inode with a name.
var makers = map[string]func(s string) call{
	"Create": create, "Mkdir": mkdir, "Symlink": func(s string) call { return symlink("x/y", s) },
}

// P17.1 to P17.3: what each of them makes: an inode with its record, and its name, in the directory that the path leads to.
func TestMade(t *testing.T) {
	w := fresh(t, 128)
	w.gives(create("/f"), 2)
	w.is(2, api.Inode{Kind: 1, Links: 1})
	root := w.record(1)
	w.is(1, api.Inode{Kind: 2, Links: 2, Size: 512, Direct: [10]int{101}})
	w.free(26, 13)

	w.gives(mkdir("/d"), 3)
	w.is(3, api.Inode{Kind: 2, Links: 2})
	root.Links = 3
	w.is(1, root)
	w.free(26, 12)

	w.gives(symlink("d", "/l"), 4)
	w.is(4, api.Inode{Kind: 3, Links: 1, Size: 1, Direct: [10]int{102}})
	w.reads(4, "d")
	w.is(1, root)
	w.free(25, 11)

	w.gives(mkdir("/l/e"), 5)
	w.is(3, api.Inode{Kind: 2, Links: 3, Size: 512, Direct: [10]int{103}})
	w.is(1, root)
	w.gives(create("/d/e/../../l/e/g/"), 6)
	w.is(6, api.Inode{Kind: 1, Links: 1})
	w.gives(symlink("../..", "/d/e/up"), 7)
	w.gives(create("/l/e/up/top"), 8)
	w.gives(create("//.//l/./h//"), 9)
	w.cells(1, api.Entry{Place: 1, Name: "d", Inode: 3}, api.Entry{Place: 0, Name: "f", Inode: 2}, api.Entry{Place: 2, Name: "l", Inode: 4}, api.Entry{Place: 3, Name: "top", Inode: 8})
	w.cells(3, api.Entry{Place: 0, Name: "e", Inode: 5}, api.Entry{Place: 1, Name: "h", Inode: 9})
	w.cells(5, api.Entry{Place: 0, Name: "g", Inode: 6}, api.Entry{Place: 1, Name: "up", Inode: 7})
	w.free(22, 6)
	w.rightCommitted()
}

// P17.1 to P17.3: the root is there, also if nothing of the disk can be asked.
func TestMakeTheRoot(t *testing.T) {
	for how := range ends {
		w := fresh(t, 128)
		w.noRecord(1)
		w.end(how)
		for _, make := range makers {
			w.refuses(api.ErrExist, make("/"), make("//"), make(rep("/", 1024)))
		}
	}
}

// P17.1 to P17.3: a name that is there, whatever it names: each kind, a link that leads nowhere, what is free, what is no record, what is no inode. None of that is read.
func TestMakeWhatIsThere(t *testing.T) {
	names := []api.Entry{has("file", 2), has("dir", 3), has("link", 4), has("nowhere", 5), has("loop", 6), has("free", 7), has("bad", 8), has("far", 128), has("root", 1), has("farther", 1<<32-1)}
	w := laid(t, map[int]thing{1: folder(3, names...), 2: plainFile(1, ""), 3: folder(2, has("x", 2)), 4: linkTo(1, "dir"), 5: linkTo(1, "none"), 6: linkTo(1, "loop")})
	w.noRecord(8)
	for _, make := range makers {
		for _, c := range names {
			w.refuses(api.ErrExist, make("/"+c.Name), make("//./"+c.Name+"//"))
		}
		w.refuses(api.ErrExist, make("/dir/x"), make("/link/x"))
		w.refuses(api.ErrNotDir, make("/file/x"), make("/free/x"))
		w.refuses(api.ErrNone, make("/nowhere/x"), make("/none/x"), make("/dir/y/x"))
		w.refuses(api.ErrLoop, make("/loop/x"))
		w.refuses(api.ErrRecord, make("/bad/x"))
		w.refuses(api.ErrInode, make("/far/x"))
	}
}

// P17.1 to P17.3: what is no path is told first, also with nothing of the disk to be asked; of a link the text ahead of that.
func TestMakeNoPath(t *testing.T) {
	for how := range ends {
		w := fresh(t, 128)
		w.noRecord(1)
		w.end(how)
		for s, code := range noPaths {
			for _, make := range makers {
				w.refuses(code, make(s))
			}
			for text, first := range noTexts {
				w.refuses(first, symlink(text, s))
			}
		}
		for text, first := range noTexts {
			w.refuses(first, symlink(text, "/"), symlink(text, "/x"), symlink(text, "/x/y"))
		}
	}
}

// P17.1 to P17.3: what can't be asked.
func TestMakeUnasked(t *testing.T) {
	for how, code := range ends {
		if code == api.OK {
			continue
		}
		w := fresh(t, 128)
		w.does(mkdir("/d"))
		w.again()
		w.end(how)
		for _, make := range makers {
			w.refuses(code, make("/x"), make("/d"), make("/d/x"), make("/x/y"))
		}
	}
}

// P17.1 to P17.3: a name may lie 32 deep, and not 33; one can say it through a link.
func TestMakeDeep(t *testing.T) {
	w := fresh(t, 640)
	w.stem("/a", 32)
	w.does(symlink(rep("/a", 30), "/to30"), symlink(rep("/a", 31), "/to31"), symlink(rep("/a", 32), "/to32"))
	for _, make := range makers {
		w.refuses(api.ErrTooLong, make("/to32/x"), make("/to31/a/x"), make("/to30/a/a/x"))
		w.refuses(api.ErrExist, make("/to31/a"))
		w.refuses(api.ErrNone, make("/to32/x/y"))
	}
	n := 37
	for name, make := range makers {
		w.gives(make("/to31/"+name), n)
		w.gives(make("/to30/"+name), n+1)
		n += 2
	}
	w.does(mkdir("/to30/b"))
	w.gives(create("/to30/b/x"), n+1)
	w.refuses(api.ErrTooLong, create("/to31/Mkdir/x"), mkdir("/to31/Mkdir/x"))
	w.gives(create("/to32/../x"), n+2)
	w.rightCommitted()
}

// P17.1 to P17.3: ErrTooLong comes ahead of ErrSpace, and ErrExist ahead of both.
func TestDeepAheadOfFull(t *testing.T) {
	w := fresh(t, 320)
	w.stem("/a", 32)
	w.does(symlink(rep("/a", 32), "/s"), symlink(rep("/a", 31), "/r"))
	for i := range 4 {
		w.does(create(fmt.Sprint("/f", i)))
	}
	w.again()
	w.free(w.g.Blocks-w.g.Data-32-2, 0)
	for _, make := range makers {
		w.refuses(api.ErrTooLong, make("/s/x"))
		w.refuses(api.ErrExist, make("/f0"), make("/"))
		w.refuses(api.ErrSpace, make("/x"), make("/r/x"))
	}
	w.does(unlink("/f3"))
	w.takeAll()
	for name, make := range makers {
		w.refuses(api.ErrTooLong, make("/s/x"))
		w.refuses(api.ErrExist, make("/f0"))
		w.refuses(api.ErrNone, make("/x/x"))
		if name == "Symlink" {
			w.refuses(api.ErrSpace, make("/x"))
		}
	}
}

// P17.1, W2: the lowest free inode, each time; with none free ErrSpace, however many blocks are.
func TestInodes(t *testing.T) {
	w := fresh(t, 128)
	for n := 2; n < 16; n++ {
		w.gives(create(fmt.Sprint("/f", n)), n)
	}
	w.free(26, 0)
	for _, make := range makers {
		w.refuses(api.ErrSpace, make("/x"))
	}
	for _, n := range []int{9, 3, 15} {
		w.does(unlink(fmt.Sprint("/f", n)))
	}
	w.gives(mkdir("/x"), 3)
	w.gives(symlink("x", "/y"), 9)
	w.gives(create("/z"), 15)
	w.refuses(api.ErrSpace, create("/f9"))
	w.rightCommitted()
}

// P17.1 to P17.3: a directory without a free cell gets a block; with no block free it is refused, with a free cell it isn't.
func TestCells(t *testing.T) {
	w := fresh(t, 192)
	for i := range 14 {
		w.does(create(fmt.Sprint("/f", i)))
	}
	w.does(mkdir("/d"), create("/last"))
	w.fill(2, 0)
	for _, make := range makers {
		w.refuses(api.ErrSpace, make("/x"), make("/d/x"))
	}
	w.does(unlink("/f7"))
	w.refuses(api.ErrSpace, symlink("x", "/x"))
	w.gives(mkdir("/x"), 9)
	w.cells(9)
	w.refuses(api.ErrSpace, create("/y"), create("/x/y"))
	w.does(rmdir("/x"))
	w.gives(create("/y"), 9)
	if x := w.record(1); x.Size != 512 {
		t.Errorf("P17.1: the root has the size %d", x.Size)
	}
	w.rightCommitted()

	// One block more, for one name more.
	w.does(unlink("/last"), create("/last"))
	w.shrink(2)
	w.gives(mkdir("/e"), 18)
	w.free(0, 5)
	if x := w.record(1); x.Size != 1024 || x.Links != 4 {
		t.Errorf("P17.2: the root is %v", x)
	}
	w.gives(create("/g"), 19)
	w.refuses(api.ErrSpace, create("/d/x"))
	w.rightCommitted()
}

// shrink takes a file's last block away, so that one more is free.
func (w *world) shrink(n int) {
	w.t.Helper()
	before, _ := w.room()
	w.cut(n, w.record(n).Size-size)
	if after, _ := w.room(); after != before+1 {
		w.t.Fatalf("%d blocks are free, then %d", before, after)
	}
}

// P17.1 to P17.3: a directory of ten full blocks wants a table with the next one.
func TestCellsBehindATable(t *testing.T) {
	for left := range 5 {
		w := fresh(t, 300)
		w.does(create("/f"), create("/big"), mkdir("/d"))
		w.writes(3, 138*size, "x")
		for i := range 160 {
			w.does(link("/f", fmt.Sprint("/d/", i)))
			if i%20 == 0 {
				w.again()
			}
		}
		w.again()
		for b, _ := w.room(); b > left; b, _ = w.room() {
			w.fill(3, max(left, b-50))
			w.again()
		}
		wants := map[string]int{"Create": 2, "Mkdir": 2, "Symlink": 3}
		for name, make := range makers {
			if left < wants[name] {
				w.refuses(api.ErrSpace, make("/d/x"))
				continue
			}
			mark, _ := w.x.Mark()
			w.gives(make("/d/x"), 5)
			w.free(left-wants[name], w.g.Count-6)
			w.right()
			want(t, "Back", w.x.Back(mark), api.OK)
		}
		if e := (link("/f", "/d/x")); left < 2 {
			w.refuses(api.ErrSpace, e)
		} else {
			w.gives(e, 0)
			w.rightCommitted()
		}
	}
}

// P17.3: texts of each length, with as many blocks as they want, and one less.
func TestTexts(t *testing.T) {
	long := rep(rep("x", 27)+"/", 32) + rep("/", 128)
	for _, length := range []int{1, 2, 27, 511, 512, 513, 1023, 1024} {
		text := "." + rep("/", length-1)
		for _, text := range []string{text, long[:min(length, 20)] + rep("/", max(0, length-20)), long[len(long)-length:], "x" + rep("/.", length/2)} {
			blocks := (len(text) + 511) / 512
			if len(text) > 1024 {
				continue
			}
			w := fresh(t, 128)
			w.does(create("/f"), mkdir("/d"), create("/big"))
			w.fill(4, blocks+1)
			w.gives(symlink(text, "/d/s"), 5)
			w.reads(5, text)
			x := w.record(5)
			if x.Kind != 3 || x.Links != 1 || x.Size != len(text) {
				t.Errorf("P17.3: a text of %d bytes: %v", len(text), x)
			}
			w.free(0, 10)
			w.rightCommitted()
			w.gives(unlink("/d/s"), 0)
			w.free(blocks, 11)
			w.gives(symlink(text, "/d/t"), 5)
			w.does(unlink("/d/t"), unlink("/f"), create("/d/f"))
			w.fill(4, blocks-1)
			w.refuses(api.ErrSpace, symlink(text, "/d/s"), symlink(text, "/s"))
			w.does(mkdir("/e"))
			w.shrink(4)
			w.refuses(api.ErrSpace, symlink(text, "/e/s"))
			w.gives(symlink(text, "/d/s"), 6)
			w.rightCommitted()
		}
	}
}

// P17.3: the link's blocks are taken ahead of the directory's.
func TestTextAheadOfDirectory(t *testing.T) {
	w := fresh(t, 128)
	w.does(mkdir("/d"))
	w.gives(symlink(rep("/", 600), "/d/s"), 3)
	w.is(3, api.Inode{Kind: 3, Links: 1, Size: 600, Direct: [10]int{102, 103}})
	w.is(2, api.Inode{Kind: 2, Links: 2, Size: 512, Direct: [10]int{104}})
}

// P17.3: a text is kept as it is; where it leads is no matter.
func TestTextsLead(t *testing.T) {
	w := fresh(t, 128)
	w.does(mkdir("/d"), create("/d/f"))
	for i, text := range []string{"d/f", "/d//f/", "./d/./f", "d/../d/f", "nowhere", "../..", "/", ".", "self", "\xff \n"} {
		s := fmt.Sprint("/s", i)
		w.gives(symlink(text, s), 4+i)
		w.reads(4+i, text)
		w.leads(s, 4+i)
	}
	w.refuses(api.ErrNotDir, create("/s0/x"), create("/s1/x"), create("/s2/x"), create("/s3/x"))
	w.refuses(api.ErrNone, create("/s4/x"))
	w.gives(create("/s6/x"), 14)
	w.leads("/x", 14)
	w.rightCommitted()
}

// P17.1: a name of 27 bytes, and odd ones.
func TestNames(t *testing.T) {
	w := fresh(t, 192)
	for i, s := range []string{rep("x", 27), "...", " ", "\xff", "a\nb", "..a", "-", "\x01", "ä"} {
		w.gives(create("/"+s), 2+i)
		w.leads("/"+s, 2+i)
		w.refuses(api.ErrExist, create("/"+s))
	}
	w.gives(create("/X"), 11)
	w.gives(create("/x"), 12)
	w.rightCommitted()
}

// P17.2: the Links of the directory that has the new one are of two bytes: one more than they hold is no record.
func TestMkdirLinks(t *testing.T) {
	for links, code := range map[int]api.Errno{2: api.OK, 1000: api.OK, 65534: api.OK, 65535: api.ErrRecord} {
		for _, l := range [][]api.Entry{nil, {has("a", 2)}, many("n", 16, 2)} {
			w := laid(t, map[int]thing{1: folder(3, has("d", 3)), 2: plainFile(1, ""), 3: folder(links, l...)})
			if code != api.OK {
				w.refuses(code, mkdir("/d/x"))
				w.gives(create("/d/x"), 4)
				w.links(3, links)
				continue
			}
			w.gives(mkdir("/d/x"), 4)
			w.links(3, links+1)
			w.links(1, 3)
		}
	}
	// That there is no room is told ahead of it.
	w := laid(t, map[int]thing{1: folder(3, has("d", 3)), 2: plainFile(1, ""), 3: folder(65535, many("n", 16, 2)...)})
	w.takeAll()
	w.refuses(api.ErrSpace, mkdir("/d/x"))
}

// many is so many names of one inode.
func many(name string, count, inode int) []api.Entry {
	var l []api.Entry
	for i := range count {
		l = append(l, has(fmt.Sprint(name, i), inode))
	}
	return l
}

// takeAll lets no block be free.
func (w *world) takeAll() {
	w.t.Helper()
	b := w.block(98)
	for i := range b {
		b[i] = 0xFF
	}
	w.lay(98, b)
}
