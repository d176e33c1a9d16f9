package ram_test

import (
	"fmt"
	"testing"

	"bole/api"
)

// moves are the two ways to rename something that nobody holds.
var moves = []func(old, other string) op{rename, func(old, other string) op { return renameAs(old, other, false) }}

// P18.2: a name moves, within its directory and into another one.
func TestRenameBeside(t *testing.T) {
	for _, move := range moves {
		b := fresh(t, 128)
		b.does(mkdir("/a"), mkdir("/b"), create("/a/f"), write("/a/f", 0, "oak"), symlink("f", "/a/s"), mkdir("/a/d"), create("/a/d/x"))
		b.does(move("/a/f", "/a/g"))
		b.lists("/a", "d", "g", "s")
		b.does(move("/a/g", "/b/f"), move("/a/s", "/b/t"), move("/a/d", "/b/e"))
		b.lists("/a")
		b.lists("/b", "e", "f", "t")
		b.holds("/b/f", "oak")
		b.is("/b/f", 4, 1, 1, 3, 1)
		b.is("/b/t", 5, 3, 1, 1, 1)
		b.is("/b/e", 6, 2, 2, 512, 1)
		b.is("/a", 2, 2, 2, 512, 1)
		b.is("/b", 3, 2, 3, 512, 1)
		b.is("/", 1, 2, 4, 512, 1)
		b.lists("/b/e", "x")
		b.does(move("/b", "/a/b"), move("/a/b/e", "/e"))
		b.is("/", 1, 2, 4, 512, 1)
		b.is("/a", 2, 2, 3, 512, 1)
		b.is("/a/b", 3, 2, 2, 512, 1)
		b.lists("/e", "x")
		b.lists("/e/..", "a", "e")
	}
}

// P18.2: a Rename of a thing to a name that it has changes nothing.
func TestRenameSame(t *testing.T) {
	b := fresh(t, 128)
	b.does(mkdir("/d"), create("/f"), link("/f", "/g"), link("/f", "/d/h"), symlink("x", "/s"), link("/s", "/t"), mkdir("/d/e"), symlink("d", "/l"))
	for _, hold := range []bool{false, true} {
		b.unchanged(renameAs("/f", "/f", hold), renameAs("/f", "/g", hold), renameAs("/d/h", "/f", hold), renameAs("/s", "/t", hold), renameAs("/d", "/d", hold), renameAs("/d/e", "/l/e", hold), renameAs("/l", "/l/", hold))
	}
	b.unchanged(rename("/f", "/g"), rename("/d", "//./d/"))
}

// P18.2: onto a file, a link, an empty directory: that is gone with all that it takes.
func TestRenameOnto(t *testing.T) {
	for _, move := range moves {
		b := fresh(t, 128)
		b.does(create("/f"), write("/f", 0, "oak"), create("/g"), write("/g", 0, rep("x", 2000)), symlink("x", "/s"), create("/h"), link("/h", "/h2"))
		b.free(20, 10)
		b.does(move("/f", "/g"))
		b.holds("/g", "oak")
		b.free(24, 11)
		b.refuses(api.ErrInode, statAt(3))
		b.does(move("/g", "/s"))
		b.holds("/s", "oak")
		b.refuses(api.ErrInode, statAt(4))
		b.free(25, 12)
		b.does(move("/s", "/h"))
		b.is("/h2", 5, 1, 1, 0, 0)
		b.is("/h", 2, 1, 1, 3, 1)
		b.does(symlink("y", "/s"), move("/s", "/h"))
		b.answers(readlink("/h"), api.Answer{Data: "y"})
		b.refuses(api.ErrInode, statAt(2))
		b.lists("/", "h", "h2")
		b.free(25, 12)
	}
}

// P18.2: a directory onto an empty one.
func TestRenameOntoDirectory(t *testing.T) {
	for _, move := range moves {
		b := fresh(t, 128)
		b.does(mkdir("/a"), mkdir("/b"), mkdir("/b/c"), create("/b/c/x"), unlink("/b/c/x"), create("/f"), mkdir("/a/e"), create("/a/e/y"))
		b.is("/b", 3, 2, 3, 512, 1)
		b.refuses(api.ErrNotEmpty, move("/a", "/b"), move("/b/c", "/a"), move("/a/e", "/b"))
		free := b.Do(room().c).Room
		b.does(move("/a/e", "/b/c"))
		b.free(free.FreeBlocks+1, free.FreeInodes+1)
		b.is("/b", 3, 2, 3, 512, 1)
		b.is("/a", 2, 2, 2, 512, 1)
		b.lists("/b/c", "y")
		b.lists("/a")
		// In the place of one in the same directory, and of an empty one that is above nothing.
		b.does(move("/b", "/a"))
		b.is("/", 1, 2, 3, 512, 1)
		b.is("/a", 3, 2, 3, 512, 1)
		b.lists("/", "a", "f")
		b.lists("/a/c", "y")
	}
}

// P18.2: the kinds of the two must fit; nothing comes into itself.
func TestRenameRefused(t *testing.T) {
	b := fresh(t, 128)
	b.does(mkdir("/d"), mkdir("/d/e"), mkdir("/d/e/g"), create("/f"), symlink("d", "/s"), mkdir("/z"), symlink("loop", "/loop"))
	for _, hold := range []bool{false, true} {
		move := func(old, other string) op { return renameAs(old, other, hold) }
		b.refuses(api.ErrIsDir, move("/f", "/d"), move("/f", "/z"), move("/s", "/z"), move("/s", "/d"))
		b.refuses(api.ErrNotDir, move("/d", "/f"), move("/d", "/s"), move("/z", "/s"), move("/z", "/loop"), move("/f/x", "/y"), move("/f", "/f/x"))
		b.refuses(api.ErrInval, move("/d", "/d/x"), move("/d", "/d/e"), move("/d", "/d/e/g"), move("/d", "/d/e/x"), move("/d", "/s/x"), move("/d/e", "/s/e/x"), move("/d", "/s/e/g/../x"))
		b.refuses(api.ErrNotEmpty, move("/z", "/d"), move("/d/e", "/d"), move("/d/e/g", "/d"))
		b.refuses(api.ErrBusy, move("/", "/x"), move("/", "/"), move("/f", "/"), move("/d", "/"), move("/", "/f"), move("/", "/d/e/x"))
		b.refuses(api.ErrNone, move("/x", "/y"), move("/x", "/x"), move("/x", "/"), move("/d/x", "/f"), move("/f", "/x/y"), move("/", "/x/y"))
		b.refuses(api.ErrLoop, move("/loop/x", "/y"), move("/f", "/loop/x"))
		for s, e := range noPaths {
			b.refuses(e, move(s, "/y"), move("/f", s), move(s, s))
		}
		for s, e := range noNames {
			b.refuses(e, move(s, "/y"), move("/f", s), move("/x/y", s))
		}
	}
}

// P18.2, D7: what is moved may lie no deeper than 32, nor may the deepest name below it.
func TestRenameDepth(t *testing.T) {
	b := fresh(t, 800)
	for i := range 32 {
		b.does(mkdir(rep("/d", i+1)))
		if i < 9 {
			b.does(symlink(rep("/d", i+24), fmt.Sprint("/s", i+24)))
		}
	}
	// Below /t a name lies 0, 1, 2, 3 deep; in /t3 the deepest one is a file's.
	b.does(mkdir("/t0"), mkdir("/t1"), mkdir("/t1/x"), mkdir("/t2"), mkdir("/t2/x"), symlink("q", "/t2/x/y"), mkdir("/t3"), mkdir("/t3/a"), mkdir("/t3/b"), mkdir("/t3/b/c"), create("/t3/b/c/z"), mkdir("/t3/b/a"), create("/f"))
	for _, c := range []struct {
		old  string
		most int
	}{{"/f", 32}, {"/t0", 32}, {"/t1", 31}, {"/t2", 30}, {"/t3", 29}} {
		for at := 25; at <= 33; at++ {
			x := b.copy()
			p := rename(c.old, fmt.Sprint("/s", at-1, "/new"))
			if at > c.most {
				x.refuses(api.ErrTooLong, p)
				continue
			}
			x.does(p)
			x.lists(fmt.Sprint("/s", at-1), sorted(append(b.Do(readdir(fmt.Sprint("/s", at-1)).c).Names, "new")...)...)
		}
	}
	// Onto an empty directory that lies 32 deep.
	b.does(rename("/t0", rep("/d", 32)))
	b.refuses(api.ErrTooLong, rename("/t1", rep("/d", 32)))
	// Within a tree that is full of names up to 32 nothing moves down.
	b.does(mkdir("/d/y"))
	b.refuses(api.ErrTooLong, rename("/d/d", "/d/y/d"))
	b.does(rename("/d/d", "/e"), rename("/e", "/d/d"))
}

// P18.2: a Rename in a full directory wants no cell more; into a full one it wants a block.
func TestRenameRoom(t *testing.T) {
	b := fresh(t, 128)
	b.does(mkdir("/full"), create("/f"), mkdir("/e"), mkdir("/full/d"), mkdir("/g"))
	for i := range 15 {
		b.does(link("/f", fmt.Sprint("/full/", i)))
	}
	b.leave(0)
	b.is("/full", 2, 2, 3, 512, 1)
	b.does(rename("/full/0", "/full/x"), rename("/full/x", "/full/0"))
	b.refuses(api.ErrSpace, rename("/g", "/full/x"), rename("/fill", "/full/x"), rename("/f", "/e/x"))
	// In the place of another one there is room.
	b.does(rename("/fill", "/full/0"))
	b.does(rename("/e", "/full/d"))
	b.free(0, 8)
	b.is("/full", 2, 2, 3, 512, 1)
	b.is("/", 1, 2, 4, 512, 1)
	// What leaves makes room for one.
	b.does(rename("/full/1", "/y"), rename("/g", "/full/1"))
	b.is("/full", 2, 2, 4, 512, 1)
	b.refuses(api.ErrSpace, rename("/f", "/full/x"))
}

// P18.2: a Rename over what takes blocks gives those back to nobody but the next call: it wants none itself.
func TestRenameOverInAFullTree(t *testing.T) {
	b := fresh(t, 128)
	b.does(create("/a"), create("/b"), write("/b", 0, "x"))
	b.leave(0)
	b.does(rename("/a", "/b"))
	b.free(1, 11)
	b.is("/b", 2, 1, 1, 0, 0)
}

// P18.2: of Rename what comes first where two or more are wrong.
func TestRenameOrder(t *testing.T) {
	b := fresh(t, 700)
	for i := range 32 {
		b.does(mkdir(rep("/d", i+1)))
	}
	b.does(symlink(rep("d/", 32), "/deep"), symlink(rep("d/", 31), "/deep31"), create("/f"), symlink("loop", "/loop"), mkdir("/full"), mkdir("/t"), create("/t/x"), create("/g"), mkdir("/e"), mkdir("/u"), mkdir("/u/v"), create("/u/v/w"))
	for i := range 16 {
		b.does(link("/g", fmt.Sprint("/full/", i)))
	}
	b.leave(0)
	for _, move := range append(moves, func(old, other string) op { return renameAs(old, other, true) }) {
		b.refuses(api.ErrInval, move("x", rep("/x", 33)), move("/x/y", "x"), move("/f/x", "/."), move("/", "/.."), move("/d/..", rep("/x", 33)))
		b.refuses(api.ErrTooLong, move(rep("/x", 33), "x"), move("/x", rep("/x", 33)), move("/", "/"+rep("x", 28)))
		// Old's walk and its name, ahead of other's walk, ahead of the root.
		b.refuses(api.ErrNone, move("/x", "/f/y"), move("/x", "/loop/y"), move("/x/y", "/"), move("/", "/x/y"))
		b.refuses(api.ErrNotDir, move("/f/x", "/x/y"), move("/f/x", "/"), move("/", "/f/y"))
		b.refuses(api.ErrLoop, move("/loop/x", "/x/y"), move("/", "/loop/y"))
		b.refuses(api.ErrBusy, move("/", "/d"), move("/", "/f"), move("/f", "/"), move("/", "/deep/x"), move("/", "/full/x"), move("/", "/"))
		// The kinds, ahead of inside, ahead of names in it.
		b.refuses(api.ErrIsDir, move("/f", "/t"), move("/f", "/deep31/d"), move("/f", "/d"), move("/t/x", "/t"))
		b.refuses(api.ErrNotDir, move("/t", "/t/x"), move("/u", "/u/v/w"))
		b.refuses(api.ErrInval, move("/d", "/d/d"), move("/d", "/deep/x"), move("/d", "/deep31/x"), move("/d", "/d/d/d/x"))
		b.refuses(api.ErrNotEmpty, move("/u", rep("/d", 31)), move("/t", "/d/d/d"), move("/t", "/full"))
		// How deep, ahead of whether there is room.
		b.refuses(api.ErrTooLong, move("/f", "/deep/x"), move("/t", "/deep31/x"), move("/t", "/deep31/d"))
		b.refuses(api.ErrSpace, move("/f", "/full/x"), move("/t", "/full/x"), move("/f", "/e/x"))
	}
}
