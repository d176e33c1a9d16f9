package ram_test

import (
	"fmt"
	"testing"

	"bole/api"
)

// P18.2: a link's blocks: texts of 1, 512, 513 and 1024 bytes; one of 1025 is none.
func TestSymlinkBlocks(t *testing.T) {
	for _, c := range []struct{ n, blocks int }{{1, 1}, {2, 1}, {511, 1}, {512, 1}, {513, 2}, {1023, 2}, {1024, 2}} {
		b := fresh(t, 128)
		text := rep("/", c.n)
		b.makes(symlink(text, "/s"), 2)
		b.is("/s", 2, 3, 1, c.n, c.blocks)
		b.free(26-c.blocks, 13)
		b.answers(readlink("/s"), api.Answer{Data: text})
		b.answers(stat("/s"), api.Answer{Stat: api.Stat{Inode: 1, Kind: 2, Links: 2, Size: 512, Blocks: 1}})
		b.does(unlink("/s"))
		b.free(26, 14)
	}
	fresh(t, 128).refuses(api.ErrTooLong, symlink(rep("/", 1025), "/s"))
}

// P18.2: a link's text stays as it was said, whatever it leads to.
func TestReadlink(t *testing.T) {
	b := fresh(t, 200)
	for i, text := range []string{"x", ".", "..", "/", "//a//../.", "a b", "\xff\n", rep("x", 27), rep("../", 32), "/the/same/\"text\""} {
		s := fmt.Sprint("/", i)
		b.does(symlink(text, s))
		b.answers(readlink(s), api.Answer{Data: text})
		b.answers(readlink(s+"//."), api.Answer{Data: text})
	}
	b.does(mkdir("/d"), create("/d/f"), symlink("../d", "/d/up"), symlink("d", "/l"))
	b.answers(readlink("/l/up"), api.Answer{Data: "../d"})
	b.refuses(api.ErrInval, readlink("/"), readlink("/d"), readlink("/d/f"), readlink("/l/up/f"), readlink("/l/.."), readlink("/l/up/.."))
	b.refuses(api.ErrNone, readlink("/x"), readlink("/d/x"))
	b.refuses(api.ErrNotDir, readlink("/d/f/x"))
	for s, e := range noPaths {
		b.refuses(e, readlink(s), stat(s), lstat(s), readdir(s))
	}
}

// P18.2, D6: links on the way are followed, one at the end where the call says so.
func TestFollow(t *testing.T) {
	b := fresh(t, 200)
	b.does(mkdir("/a"), mkdir("/a/b"), create("/a/b/f"), write("/a/b/f", 0, "oak"), mkdir("/c"))
	b.does(symlink("a/b", "/rel"), symlink("/a/b/", "/top"), symlink("../../c", "/a/b/over"), symlink("f", "/a/b/g"), symlink("b/..", "/a/back"), symlink(".", "/a/dot"), symlink("/", "/a/root"), symlink("rel", "/rel2"))
	for s, n := range map[string]int{"/rel/f": 4, "/top/f": 4, "/rel2/f": 4, "/rel2/g": 4, "/rel/over": 5, "/a/back": 2, "/a/dot": 2, "/a/dot/dot/back": 2, "/a/root": 1, "/a/root/rel/over/..": 1, "/rel/over/../a": 2, "/top/..": 2, "/a/back/b": 3} {
		if a := b.Do(stat(s).c); a.Stat.Inode != n || a.Err != api.OK {
			t.Errorf("P18.2: %s leads to %d, %d, want %d", s, a.Stat.Inode, a.Err, n)
		}
	}
	b.answers(read("/rel2/g", 0, 9), api.Answer{N: 3, Data: "oak"})
	b.lists("/rel2", "f", "g", "over")
	b.does(create("/rel2/new"), mkdir("/a/root/newdir"), link("/rel/g", "/rel/over/h"), rename("/top/f", "/rel/over/moved"))
	b.is("/c/h", 9, 3, 2, 1, 1)
	b.is("/c/moved", 4, 1, 1, 3, 1)
	b.lists("/newdir")
	b.refuses(api.ErrNone, stat("/rel/g"), read("/rel/g", 0, 1), readdir("/rel/g"), open("/rel/g", false, false))
	b.refuses(api.ErrExist, create("/rel"), mkdir("/rel/g"), symlink("x", "/top/"))
	b.does(unlink("/rel"))
	b.refuses(api.ErrNone, lstat("/rel"), stat("/rel2"))
	b.lists("/a/b", "g", "new", "over")
}

// P18.2, D6: eight links are followed, the ninth is ErrLoop.
func TestLoop(t *testing.T) {
	b := fresh(t, 200)
	b.does(mkdir("/d"), create("/d/f"), symlink("d", "/l1"))
	for i := 2; i <= 9; i++ {
		b.does(symlink(fmt.Sprint("l", i-1), fmt.Sprint("/l", i)))
	}
	b.lists("/l8", "f")
	b.does(create("/l8/x"), lstat("/l8/f"), lstat("/l9"), unlink("/l8/x"))
	b.refuses(api.ErrLoop, stat("/l9"), readdir("/l9"), lstat("/l9/f"), create("/l9/x"), unlink("/l9/f"), read("/l9", 0, 1), truncate("/l9", 0), open("/l9", false, false), open("/l9/x", true, true), readlink("/l9/f"), stat("/l9/.."), link("/l9/f", "/y"), link("/d/f", "/l9/y"), rename("/l9/f", "/y"), rename("/d/f", "/l9/y"), rmdir("/l9/x"), mkdir("/l9/x"), symlink("x", "/l9/x"))
	// They are counted in the whole walk.
	b.does(symlink("../l4", "/d/m"), stat("/l1/m/f"), stat("/l1/m/../l2"))
	b.refuses(api.ErrLoop, stat("/l1/m/../l3"), stat("/l4/m/f"))
	b.refuses(api.ErrLoop, lstat("/l4/m/x"))
	b.does(symlink("/me", "/me"), lstat("/me"))
	b.refuses(api.ErrLoop, stat("/me"), lstat("/me/x"))
}

// P18.2: one more name of a file, or of a symbolic link itself.
func TestLink(t *testing.T) {
	b := fresh(t, 128)
	b.does(mkdir("/d"), create("/f"), symlink("d", "/s"))
	b.answers(link("/f", "/g"), api.Answer{})
	b.answers(link("/s", "/s2"), api.Answer{})
	b.answers(link("/s/../g", "/s/h"), api.Answer{})
	b.is("/f", 3, 1, 3, 0, 0)
	b.is("/d/h", 3, 1, 3, 0, 0)
	b.is("/s2", 4, 3, 2, 1, 1)
	b.refuses(api.ErrPerm, link("/", "/x"), link("/d", "/x"), link("/d/.", "/x"), link("/s/..", "/x"))
	b.refuses(api.ErrExist, link("/f", "/"), link("/f", "/d"), link("/f", "/f"), link("/f", "/s"))
	b.refuses(api.ErrNone, link("/x", "/y"), link("/f", "/x/y"), link("/d/x", "/f"))
	b.refuses(api.ErrNotDir, link("/f/x", "/y"), link("/f", "/f/y"))
	for s, e := range noPaths {
		b.refuses(e, link(s, "/x"), link("/f", s))
	}
	for s, e := range noNames {
		b.refuses(e, link("/f", s))
	}
	// Old may end with dots: it is no name that is made.
	b.refuses(api.ErrPerm, link("/.", "/x"), link("/..", "/x"), link("/d/..", "/x"))
	b.does(unlink("/f"), unlink("/g"))
	b.is("/d/h", 3, 1, 1, 0, 0)
	b.does(unlink("/d/h"), unlink("/s"))
	b.is("/s2", 4, 3, 1, 1, 1)
	b.refuses(api.ErrInode, statAt(3))
	b.does(unlink("/s2"))
	b.refuses(api.ErrInode, statAt(4))
}

// P18.2, D8: Links of 1000, of a file and of a symbolic link.
func TestMaxLinks(t *testing.T) {
	for _, make := range []op{create("/f"), symlink("x", "/f")} {
		b := fresh(t, 300)
		b.does(make)
		for i := 2; i <= 1000; i++ {
			b.does(link("/f", fmt.Sprint("/n", i)))
		}
		if a := b.Do(lstat("/f").c); a.Stat.Links != 1000 {
			t.Errorf("P18.2: %+v, want 1000 links", a.Stat)
		}
		b.refuses(api.ErrLinks, link("/f", "/x"), link("/n7", "/x"))
		b.refuses(api.ErrExist, link("/f", "/n7"), link("/f", "/"))
		b.refuses(api.ErrNone, link("/f", "/x/y"))
		// ErrLinks comes ahead of ErrTooLong and of ErrSpace.
		for i := range 32 {
			if o := mkdir(rep("/d", i+1)).on(b); o.e != api.OK {
				t.Fatal(o)
			}
			if i == 31 {
				b.does(symlink(rep("d/", 32), "/deep"))
				b.refuses(api.ErrLinks, link("/f", "/deep/x"))
			}
			if b.Do(room().c).Room.FreeInodes < 4 {
				break
			}
		}
		b.leave(0)
		b.refuses(api.ErrLinks, link("/f", "/d/d/d/x"))
		// A Rename makes no link.
		b.does(rename("/n7", "/x"))
		b.does(unlink("/x"), link("/f", "/y"))
		b.refuses(api.ErrLinks, link("/f", "/x"))
	}
}

// P18.2: of Link what comes first where two or more are wrong.
func TestLinkOrder(t *testing.T) {
	b := fresh(t, 700)
	for i := range 32 {
		b.does(mkdir(rep("/d", i+1)))
	}
	b.does(symlink(rep("d/", 32), "/deep"), create("/f"), symlink("loop", "/loop"), mkdir("/full"), create("/g"))
	for i := range 16 {
		b.does(link("/g", fmt.Sprint("/full/", i)))
	}
	b.leave(0)
	// The texts, old's ahead of other's; then the walks, likewise.
	b.refuses(api.ErrInval, link("x", rep("/x", 33)), link("/x/y", "x"), link("/d", "/x/.."), link("/f/x", ""))
	b.refuses(api.ErrTooLong, link(rep("/x", 33), "x"), link("/x/y", rep("/x", 33)), link("/loop/x", "/"+rep("x", 28)))
	b.refuses(api.ErrNone, link("/x", "/f/y"), link("/x", "/loop/y"), link("/x", "/"), link("/x", "/deep/y"), link("/f", "/x/y"), link("/d", "/x/y"))
	b.refuses(api.ErrNotDir, link("/f/x", "/x/y"), link("/f/x", "/"), link("/d", "/f/y"), link("/", "/f/y"))
	b.refuses(api.ErrLoop, link("/loop/x", "/x/y"), link("/d", "/loop/y"))
	b.refuses(api.ErrPerm, link("/d", "/f"), link("/", "/"), link("/d", "/"), link("/d", "/deep/x"), link("/d", "/full/x"), link("/d", "/d"))
	b.refuses(api.ErrExist, link("/f", "/g"), link("/f", "/full/3"), link("/f", "/"))
	b.refuses(api.ErrTooLong, link("/f", "/deep/x"))
	b.refuses(api.ErrSpace, link("/f", "/full/x"), link("/deep", "/full/x"), link("/f", "/d/../full/x"))
}

// P18.2: what Unlink and Rmdir refuse.
func TestTakeAway(t *testing.T) {
	b := fresh(t, 128)
	b.does(mkdir("/d"), create("/d/f"), symlink("d", "/s"), symlink("loop", "/loop"), mkdir("/e"))
	for s, e := range noPaths {
		b.refuses(e, unlink(s), rmdir(s), unlinkAs(s, true), unlinkAs(s, false))
	}
	for s, e := range noNames {
		b.refuses(e, unlink(s), rmdir(s), unlinkAs(s, true))
	}
	for _, take := range []func(s string) op{unlink, func(s string) op { return unlinkAs(s, true) }, func(s string) op { return unlinkAs(s, false) }} {
		b.refuses(api.ErrIsDir, take("/"), take("//"), take("/d"), take("/e"), take("/s/../d"))
		b.refuses(api.ErrNone, take("/x"), take("/d/x"), take("/x/y"), take("/s/x"))
		b.refuses(api.ErrNotDir, take("/d/f/x"), take("/s/f/.."+"/x"))
		b.refuses(api.ErrLoop, take("/loop/x"))
	}
	b.refuses(api.ErrBusy, rmdir("/"), rmdir("///"))
	b.refuses(api.ErrNone, rmdir("/x"), rmdir("/d/x"), rmdir("/x/y"))
	b.refuses(api.ErrNotDir, rmdir("/d/f"), rmdir("/s"), rmdir("/loop"), rmdir("/d/f/x"))
	b.refuses(api.ErrLoop, rmdir("/loop/x"))
	b.refuses(api.ErrNotEmpty, rmdir("/d"), rmdir("/s/../d"))
	// A link is taken away itself, not what it leads to.
	b.does(unlink("/s/f"), unlink("/s"), unlink("/loop"), rmdir("/d"), rmdir("/e/"))
	b.lists("/")
	b.free(26, 14)
}

// P18.2: Readdir and Stat of what they may and may not be asked of.
func TestTell(t *testing.T) {
	b := fresh(t, 128)
	b.does(mkdir("/d"), create("/d/f"), symlink("d/f", "/s"), symlink("d", "/t"))
	b.refuses(api.ErrNotDir, readdir("/d/f"), readdir("/s"), readdir("/s/x"), stat("/s/x"), lstat("/s/.."))
	b.refuses(api.ErrNone, readdir("/x"), stat("/x"), lstat("/t/x"))
	b.unchanged(readdir("/t"), stat("/t"), lstat("/t"), readlink("/t"), room(), read("/s", 0, 10))
	b.lists("/t/", "f")
	b.answers(stat("/t"), b.Do(lstat("/d").c))
	b.is("/t", 5, 3, 1, 1, 1)
}
