package vfs_test

import (
	"fmt"
	"testing"

	"bole/api"
)

// P20.5: Open of names that are there and that aren't, of the root, of directories, of symbolic links.
func TestOpen(t *testing.T) {
	b := wood(t, 128)
	b.does(symlink("gone", "/dead"), symlink("loop", "/loop"), symlink("/f", "/sf"), symlink("/e/new", "/se"), symlink("sf", "/ssf"))
	for _, c := range []struct {
		s                         string
		plain, make, only, beside api.Errno // without create, with it, with it and excl; excl alone is not looked at
	}{
		{"/f", api.OK, api.OK, api.ErrExist, api.OK},
		{"/f/", api.OK, api.OK, api.ErrExist, api.OK},
		{"/f/.", api.OK, api.ErrInval, api.ErrInval, api.OK},
		{"/d/g", api.OK, api.OK, api.ErrExist, api.OK},
		{"/l/g", api.OK, api.OK, api.ErrExist, api.OK},
		{"/sf", api.OK, api.OK, api.ErrExist, api.OK},
		{"/ssf", api.OK, api.OK, api.ErrExist, api.OK},
		{"/d/s", api.OK, api.OK, api.ErrExist, api.OK},
		{"/", api.ErrIsDir, api.ErrIsDir, api.ErrExist, api.ErrIsDir},
		{"//", api.ErrIsDir, api.ErrIsDir, api.ErrExist, api.ErrIsDir},
		{"/.", api.ErrIsDir, api.ErrInval, api.ErrInval, api.ErrIsDir},
		{"/d/..", api.ErrIsDir, api.ErrInval, api.ErrInval, api.ErrIsDir},
		{"/d", api.ErrIsDir, api.ErrIsDir, api.ErrExist, api.ErrIsDir},
		{"/l", api.ErrIsDir, api.ErrIsDir, api.ErrExist, api.ErrIsDir},
		{"/dead", api.ErrNone, api.ErrNone, api.ErrExist, api.ErrNone},
		{"/se", api.ErrNone, api.ErrNone, api.ErrExist, api.ErrNone},
		{"/loop", api.ErrLoop, api.ErrLoop, api.ErrExist, api.ErrLoop},
		{"/loop/x", api.ErrLoop, api.ErrLoop, api.ErrLoop, api.ErrLoop},
		{"/dead/x", api.ErrNone, api.ErrNone, api.ErrNone, api.ErrNone},
		{"/gone/x", api.ErrNone, api.ErrNone, api.ErrNone, api.ErrNone},
		{"/f/x", api.ErrNotDir, api.ErrNotDir, api.ErrNotDir, api.ErrNotDir},
		{"/sf/x", api.ErrNotDir, api.ErrNotDir, api.ErrNotDir, api.ErrNotDir},
	} {
		before := steps(b.d)
		for _, x := range []struct {
			p op
			e api.Errno
		}{{open(c.s, false, false), c.plain}, {open(c.s, true, false), c.make}, {open(c.s, true, true), c.only}, {open(c.s, false, true), c.beside}} {
			o := b.call(x.p)
			if o.e != x.e || o.e == api.OK && o.n != b.Do(stat(c.s).c).Stat.Inode {
				t.Errorf("P20.5: %v: %v, want E%d", x.p, o, int(x.e))
			}
		}
		if steps(b.d) != before {
			t.Errorf("P20.5: Open of %s has a step, and makes nothing", c.s)
		}
	}
	for s, e := range noPaths {
		b.refuses(e, open(s, false, false), open(s, false, true), open(s, true, false), open(s, true, true))
	}
	for s, e := range noNames {
		b.refuses(e, open(s, true, false), open(s, true, true))
	}
	b.right("opens")
}

// P20.5: a name that isn't there is made, as by Create, with excl or without; it isn't without create.
func TestOpenMakes(t *testing.T) {
	for _, excl := range []bool{false, true} {
		b, c := wood(t, 128), wood(t, 128)
		b.refuses(api.ErrNone, open("/d/n", false, excl))
		b.tellsNumber(open("/l/n", true, excl), 9)
		c.makes(create("/l/n"), 9)
		if got, want := sight(b), sight(c); got != want || string(b.d.Image()) != string(c.d.Image()) {
			t.Errorf("P20.5: Open makes\n%s\nCreate\n%s", got, want)
		}
		b.is("/d/n", 9, 1, 1, 0, 0)
		b.does(release(8))
		b.tellsNumber(open("/n/", true, excl), 8)
		b.right("a file that Open made")
	}
}

// P20.5, D7, P17.1: the errors of Create come of Open too, in its order: a name that would lie too deep, no inode, no block.
func TestOpenShort(t *testing.T) {
	b := fresh(t, 512)
	for i := range 32 {
		b.does(mkdir(rep("/d", i+1)))
	}
	b.does(symlink(rep("d/", 32), "/s"))
	b.refuses(api.ErrTooLong, open("/s/n", true, false), open("/s/n", true, true), create("/s/n"), mkdir("/s/n"), symlink("x", "/s/n"))
	b.refuses(api.ErrNone, open("/s/n", false, true))

	b = fresh(t, 128)
	b.does(create("/f"))
	for i := 3; i < 16; i++ {
		b.tellsNumber(open(fmt.Sprint("/", i), true, true), i)
	}
	b.refuses(api.ErrSpace, open("/n", true, false), open("/n", true, true))
	b.refuses(api.ErrExist, open("/f", true, true))
	b.tellsNumber(open("/f", true, false), 2)
}

// P20.6: calls by numbers: of what no inode has, of the root, of a directory, a file, a symbolic link, an orphan, a free one, the last one.
func TestNumbers(t *testing.T) {
	b := wood(t, 128)
	for _, n := range append(noInodes(16), 9, 10, 14, 15) {
		b.refuses(api.ErrInode, readAt(n, 0, 1), readAt(n, 0, 0), writeAt(n, 0, "x"), writeAt(n, 0, ""), writeAt(n, 8459265, ""), cutAt(n, 0), cutAt(n, 8459265), statAt(n), release(n))
		b.refuses(api.ErrInval, readAt(n, -1, 1), readAt(n, 0, -1), readAt(n, 0, 16385), writeAt(n, -1, ""), writeAt(n, 0, pattern(16385)), cutAt(n, -1))
	}
	for _, n := range []int{1, 2, 7} {
		b.refuses(api.ErrIsDir, readAt(n, 0, 1), readAt(n, 1<<62, 0), writeAt(n, 0, "x"), writeAt(n, 0, ""), writeAt(n, 8459265, ""), cutAt(n, 0), cutAt(n, 512), cutAt(n, 8459265))
		b.refuses(api.ErrInval, readAt(n, -1, 1), readAt(n, 0, 16385), writeAt(n, -1, ""), writeAt(n, 0, pattern(16385)), cutAt(n, -1), release(n))
	}
	for _, n := range []int{5, 6} {
		b.refuses(api.ErrInval, readAt(n, 0, 1), writeAt(n, 0, "x"), writeAt(n, 0, ""), writeAt(n, 8459265, ""), cutAt(n, 1), cutAt(n, 0), cutAt(n, 8459265), readAt(n, -1, 1), release(n))
	}
	b.gives(statAt(1), out{stat: api.Stat{Inode: 1, Kind: 2, Links: 4, Size: 512, Blocks: 1}})
	b.gives(statAt(2), out{stat: api.Stat{Inode: 2, Kind: 2, Links: 2, Size: 512, Blocks: 1}})
	b.gives(statAt(3), out{stat: api.Stat{Inode: 3, Kind: 1, Links: 1, Size: 1005, Blocks: 1}})
	b.gives(statAt(5), out{stat: api.Stat{Inode: 5, Kind: 3, Links: 1, Size: 4, Blocks: 1}})
	b.gives(statAt(7), out{stat: api.Stat{Inode: 7, Kind: 2, Links: 2}})
	b.gives(statAt(8), out{stat: api.Stat{Inode: 8, Kind: 1, Size: 5, Blocks: 1}})
	b.gives(readAt(3, 998, 100), out{text: "\x00\x00hello"})
	for n := 9; n < 16; n++ {
		b.does(create(fmt.Sprint("/", n)))
	}
	b.gives(writeAt(15, 3, "last"), out{})
	b.gives(readAt(15, 0, 100), out{text: "\x00\x00\x00last"})
	b.gives(statAt(15), out{stat: api.Stat{Inode: 15, Kind: 1, Links: 1, Size: 7, Blocks: 1}})
	b.holds("/15", "\x00\x00\x00last")
	b.right("calls by numbers")
}

// P20.4, P20.6, P20.7: an orphan is as good as any other file, till it is released.
func TestOrphan(t *testing.T) {
	b := wood(t, 128)
	b.gives(readAt(8, 0, 100), out{text: "alone"})
	b.gives(writeAt(8, 70656, pattern(1000)), out{})
	b.gives(statAt(8), out{stat: api.Stat{Inode: 8, Kind: 1, Size: 71656, Blocks: 5}})
	b.gives(readAt(8, 70000, 1000), out{text: zeros(656) + pattern(344)})
	b.gives(cutAt(8, 6), out{})
	b.gives(readAt(8, 0, 100), out{text: "alone\x00"})
	b.right("an orphan that was written")
	b.makes(create("/n"), 9)
	before := b.Do(room().c).Room
	b.gives(release(8), out{})
	b.free(before.FreeBlocks+1, before.FreeInodes+1)
	b.refuses(api.ErrInode, release(8), readAt(8, 0, 1), writeAt(8, 0, "x"), cutAt(8, 0), statAt(8))
	b.makes(create("/again"), 8)
	b.gives(readAt(8, 0, 100), out{})
	b.refuses(api.ErrInval, release(8))
	b.right("an orphan that was released")
}

// P20.4: Unlink and Rename with hold and without: the orphan's number, or 0.
func TestHold(t *testing.T) {
	for _, hold := range []bool{false, true} {
		orphan := func(n int) int {
			if hold {
				return n
			}
			return 0
		}
		b := wood(t, 128)
		b.does(link("/f", "/e/f"), create("/x"), write("/x", 0, "x"), create("/y"), symlink("t", "/t"), mkdir("/v"))
		b.tellsNumber(unlinkAs("/f", hold), 0)
		b.tellsNumber(unlinkAs("/e/f", hold), orphan(3))
		b.tellsNumber(unlinkAs("/t", hold), 0)
		b.tellsNumber(renameAs("/y", "/x", hold), orphan(9))
		b.tellsNumber(renameAs("/x", "/z", hold), 0)
		b.tellsNumber(renameAs("/z", "/l", hold), 0)
		b.tellsNumber(renameAs("/v", "/e", hold), 0)
		b.tellsNumber(renameAs("/l", "/l", hold), 0)
		b.refuses(api.ErrIsDir, unlinkAs("/", hold), unlinkAs("/d", hold), renameAs("/l", "/d", hold))
		b.refuses(api.ErrNone, unlinkAs("/gone", hold), renameAs("/gone", "/x/y", hold))
		b.refuses(api.ErrBusy, renameAs("/", "/q", hold), renameAs("/d", "/", hold))
		b.right("calls with hold")
		if l := orphans(b); hold && fmt.Sprint(l) != "[3 8 9]" || !hold && fmt.Sprint(l) != "[8]" {
			t.Errorf("P20.4: with hold %t the orphans are %v", hold, l)
		}
	}
}

// P20.7: Release of each number.
func TestRelease(t *testing.T) {
	b := wood(t, 128)
	for n, e := range map[int]api.Errno{1: api.ErrInval, 2: api.ErrInval, 3: api.ErrInval, 5: api.ErrInval, 9: api.ErrInode, 15: api.ErrInode} {
		b.refuses(e, release(n))
	}
	for _, n := range noInodes(16) {
		b.refuses(api.ErrInode, release(n))
	}
	b.changed(release(8))
	b.right("a release")
}
