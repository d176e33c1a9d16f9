package ram_test

import (
	"testing"

	"bole/api"
)

// P18.2, D10: a file that is held when it loses its last name stays, with Links 0, until Release.
func TestUnlinkHeld(t *testing.T) {
	b := fresh(t, 128)
	b.does(create("/f"), write("/f", 0, rep("x", 6000)), link("/f", "/g"))
	b.gives(unlinkAs("/f", true), out{})
	b.is("/g", 2, 1, 1, 6000, 13)
	b.free(13, 13)
	b.gives(unlinkAs("/g", true), out{n: 2})
	b.free(13, 13)
	b.lists("/")
	b.gives(statAt(2), out{stat: api.Stat{Inode: 2, Kind: 1, Size: 6000, Blocks: 13}})
	// Its number is taken.
	b.next(3)
	b.makes(create("/h"), 3)
	// It is as good as any other file.
	b.gives(readAt(2, 5998, 9), out{text: "xx"})
	b.gives(writeAt(2, 6000, "yz"), out{})
	b.gives(readAt(2, 5998, 9), out{text: "xxyz"})
	b.gives(cutAt(2, 1), out{})
	b.gives(statAt(2), out{stat: api.Stat{Inode: 2, Kind: 1, Size: 1, Blocks: 1}})
	b.free(25, 12)
	b.gives(release(2), out{})
	b.free(26, 13)
	b.next(2)
	b.refuses(api.ErrInode, statAt(2), release(2), readAt(2, 0, 1), writeAt(2, 0, "x"), cutAt(2, 0))
}

// P18.2: without hold it is gone at once; Do never holds.
func TestUnlinkNotHeld(t *testing.T) {
	for _, p := range []op{unlinkAs("/f", false), unlink("/f")} {
		b := fresh(t, 128)
		b.does(create("/f"), write("/f", 0, "oak"))
		b.gives(p, out{})
		b.refuses(api.ErrInode, statAt(2))
		b.free(26, 14)
	}
}

// P18.2: a symbolic link is no file: it is gone with its last name, held or not.
func TestUnlinkHeldLink(t *testing.T) {
	b := fresh(t, 128)
	b.does(symlink("x", "/s"), link("/s", "/t"))
	b.gives(unlinkAs("/s", true), out{})
	b.is("/t", 2, 3, 1, 1, 1)
	b.gives(unlinkAs("/t", true), out{})
	b.refuses(api.ErrInode, statAt(2))
	b.free(26, 14)
}

// P18.2: what a Rename takes the place of: held, a file stays as an orphan; nothing else does.
func TestRenameHeld(t *testing.T) {
	b := fresh(t, 128)
	b.does(create("/f"), create("/g"), write("/g", 0, "oak"), symlink("x", "/s"), mkdir("/d"), mkdir("/e"), create("/h"), link("/h", "/h2"))
	b.gives(renameAs("/f", "/g", true), out{n: 3})
	b.gives(statAt(3), out{stat: api.Stat{Inode: 3, Kind: 1, Size: 3, Blocks: 1}})
	b.gives(readAt(3, 0, 9), out{text: "oak"})
	b.gives(renameAs("/g", "/s", true), out{})
	b.refuses(api.ErrInode, statAt(4))
	b.gives(renameAs("/d", "/e", true), out{})
	b.refuses(api.ErrInode, statAt(6))
	// One that has another name is no orphan.
	b.gives(renameAs("/s", "/h", true), out{})
	b.is("/h2", 7, 1, 1, 0, 0)
	// Where nothing is taken away there is no orphan.
	b.gives(renameAs("/h", "/new", true), out{})
	b.gives(renameAs("/new", "/new", true), out{})
	b.gives(renameAs("/new", "/h2", true), out{n: 7})
	b.lists("/", "e", "h2")
	b.gives(release(3), out{})
	b.gives(release(7), out{})
	b.is("/h2", 2, 1, 1, 0, 0)
	b.free(26, 12)
}

// P18.2: a link or directory may take a held file's place, too, where the kinds fit.
func TestRenameLinkOverHeld(t *testing.T) {
	b := fresh(t, 128)
	b.does(create("/f"), symlink("x", "/s"), mkdir("/d"))
	b.gives(renameAs("/s", "/f", true), out{n: 2})
	b.answers(readlink("/f"), api.Answer{Data: "x"})
	b.refuses(api.ErrNotDir, renameAs("/d", "/f", true))
	b.gives(statAt(2), out{stat: api.Stat{Inode: 2, Kind: 1}})
}

// P18.2: many orphans; each stays till its own Release.
func TestManyOrphans(t *testing.T) {
	b := fresh(t, 128)
	for n := 2; n < 16; n++ {
		b.makes(create("/f"), n)
		b.does(writeAt(n, 0, "x"))
		b.gives(unlinkAs("/f", true), out{n: n})
	}
	b.free(12, 0)
	b.refuses(api.ErrSpace, create("/f"), open("/f", true, false))
	b.gives(release(7), out{})
	b.next(7)
	b.gives(release(3), out{})
	b.next(3)
	b.free(14, 2)
	for n := 2; n < 16; n++ {
		if n != 3 && n != 7 {
			b.gives(release(n), out{})
		}
	}
	b.free(26, 14)
}

// P18.2: Release of what is no orphan.
func TestReleaseRefused(t *testing.T) {
	b := fresh(t, 128)
	b.does(create("/f"), mkdir("/d"), symlink("x", "/s"), create("/o"), create("/gone"), link("/f", "/f2"))
	b.does(unlinkAs("/o", true), unlink("/gone"))
	b.refuses(api.ErrInval, release(1), release(2), release(3), release(4))
	b.refuses(api.ErrInode, release(6), release(15))
	for _, n := range noInodes(16) {
		b.refuses(api.ErrInode, release(n), statAt(n), readAt(n, 0, 1), writeAt(n, 0, "x"), writeAt(n, 0, ""), cutAt(n, 0))
	}
	b.does(unlink("/f"))
	b.refuses(api.ErrInval, release(2))
	b.does(release(5))
	b.refuses(api.ErrInode, release(5))
}

// P18.2: Open without create: the file to which a path leads.
func TestOpen(t *testing.T) {
	b := fresh(t, 128)
	b.does(mkdir("/d"), create("/d/f"), symlink("d/f", "/s"), symlink("gone", "/g"), symlink("loop", "/loop"), symlink("d", "/t"))
	for _, excl := range []bool{false, true} {
		b.unchanged1(open("/d/f", false, excl), 3)
		b.unchanged1(open("/s", false, excl), 3)
		b.unchanged1(open("/t/f/.", false, excl), 3)
		b.refuses(api.ErrIsDir, open("/", false, excl), open("/d", false, excl), open("/t", false, excl), open("/d/..", false, excl))
		b.refuses(api.ErrNone, open("/x", false, excl), open("/g", false, excl), open("/x/y", false, excl))
		b.refuses(api.ErrNotDir, open("/d/f/x", false, excl), open("/s/..", false, excl))
		b.refuses(api.ErrLoop, open("/loop", false, excl))
		for s, e := range noPaths {
			b.refuses(e, open(s, false, excl))
		}
	}
}

// unchanged1 is a call that answers a number and changes nothing.
func (b *box) unchanged1(p op, n int) {
	b.t.Helper()
	before := sight(b)
	b.gives(p, out{n: n})
	if sight(b) != before {
		b.t.Errorf("P18.2: %v has changed something", p)
	}
}

// P18.2: Open with create: a name that isn't there is made; one that is there is opened, or refused.
func TestOpenCreate(t *testing.T) {
	b := fresh(t, 128)
	b.does(mkdir("/d"), create("/d/f"), symlink("d/f", "/s"), symlink("gone", "/g"), symlink("loop", "/loop"), symlink("d", "/t"))
	b.gives(open("/new", true, true), out{n: 8})
	b.gives(open("/t/new", true, false), out{n: 9})
	b.is("/new", 8, 1, 1, 0, 0)
	b.is("/d/new", 9, 1, 1, 0, 0)
	b.unchanged1(open("/new", true, false), 8)
	b.unchanged1(open("/s", true, false), 3)
	b.refuses(api.ErrExist, open("/", true, true), open("/d", true, true), open("/d/f", true, true), open("/s", true, true), open("/g", true, true), open("/loop", true, true), open("/t", true, true))
	b.refuses(api.ErrIsDir, open("/", true, false), open("/d", true, false), open("/t", true, false))
	b.refuses(api.ErrNone, open("/g", true, false), open("/x/y", true, false), open("/x/y", true, true))
	b.refuses(api.ErrNotDir, open("/d/f/x", true, false), open("/d/f/x", true, true))
	b.refuses(api.ErrLoop, open("/loop", true, false), open("/loop/x", true, false), open("/loop/x", true, true))
	for _, excl := range []bool{false, true} {
		for s, e := range noPaths {
			b.refuses(e, open(s, true, excl))
		}
		// Only with create a path may not end with dots.
		for s, e := range noNames {
			b.refuses(e, open(s, true, excl))
		}
	}
}

// P18.2: what is held and has lost its name is not to be opened by that name; another file may have it.
func TestOpenOfWhatIsHeld(t *testing.T) {
	b := fresh(t, 128)
	b.does(create("/f"), writeAt(2, 0, "old"))
	b.gives(unlinkAs("/f", true), out{n: 2})
	b.refuses(api.ErrNone, open("/f", false, false))
	b.gives(open("/f", true, true), out{n: 3})
	b.gives(unlinkAs("/f", true), out{n: 3})
	b.does(create("/f"), writeAt(4, 0, "new"))
	b.gives(readAt(2, 0, 9), out{text: "old"})
	b.gives(readAt(3, 0, 9), out{})
	b.gives(open("/f", false, false), out{n: 4})
	b.gives(release(2), out{})
	b.gives(open("/g", true, false), out{n: 2})
	b.gives(readAt(2, 0, 9), out{})
}
