package fds_test

import (
	"fmt"
	"math"
	"testing"

	"bole/api"
	"bole/vfs"
)

// noKinds are Kinds that no call has, some of them right in their lower bytes.
func noKinds() []int {
	return []int{math.MinInt, -1 << 32, -6, -1, 0, 16, 17, 99, 1<<8 + 6, 1<<16 + 8, 1<<32 + 6, 1<<32 + 8, math.MaxInt}
}

// anyCalls are calls of each Kind, right ones and wrong ones.
func anyCalls() []api.Call {
	l := []api.Call{
		creates("/n").c, creates("/n").c, creates("/x/y").c, mkdir("/e").c, mkdir("/d").c, mkdir("/e/e").c, symlink("n", "/t").c, symlink("", "/u").c, link("/f", "/e/k").c, link("/d", "/v").c,
		writeTo("/f", 1100, pattern(600)).c, writeTo("/d", 0, "x").c, writeTo("/f", -1, "x").c, writeTo("/t", 0, "through a link").c, readOf("/f", 1000, 500).c, readOf("/n", 0, 16384).c, readOf("/f", 0, 16385).c,
		truncate("/f", 700).c, truncate("/f", api.MaxFile+1).c, readlink("/l").c, readlink("/f").c, readlink("/s").c, lstat("/l").c, lstat("/").c, lstat("/none").c, readdir("/d").c, readdir("/").c, readdir("/f").c,
		rename("/n", "/e/n").c, rename("/none", "/x").c, rename("/d", "/d/x").c, rename("/", "/x").c, rename("/f", "/d/g").c, rename("/e", "/l").c, rename("/d/h", "/d/h").c, rename("/f", "/d/h").c,
		rmdir("/e").c, rmdir("/e/e").c, rmdir("/").c, rmdir("/f").c, unlink("/d/h").c, unlink("/d").c, unlink("/").c, unlink("/none").c, unlink("/s").c, unlink("").c, unlink("/l").c, unlink("/d/g").c, room().c,
		{Kind: api.CallStat, Path: "/m"}, {Kind: api.CallStat, Path: "/loop"}, {Kind: api.CallStat, Path: "/e/n"},
		{Kind: api.CallRoom, Path: "no path", Offset: -1}, {Kind: api.CallCreate, Path: "/o", Other: "\x00", Size: -1, Data: "x"},
		{Kind: api.CallUnlink, Path: "/o", Other: "\x00", Offset: -1, Size: -1, Data: "x"}, {Kind: api.CallRename, Path: "/t", Other: "/w", Offset: -1, Size: -1, Data: "x"},
	}
	for _, kind := range noKinds() {
		l = append(l, api.Call{Kind: kind, Path: "/f", Other: "/d/g"})
	}
	return l
}

// plain is an answer of Do, a list of no names being the same as none.
func plain(a api.Answer) out {
	if len(a.Names) == 0 {
		a.Names = nil
	}
	return out{a: a, e: a.Err}
}

// P21.9: where nothing is open Do is as the file system's own, of each Kind, byte by byte.
func TestDo(t *testing.T) {
	b := wood(t)
	d := opened(t, b.d.Image()).d
	f, e := vfs.Mount(d)
	if e != api.OK {
		t.Fatal(e)
	}
	for _, c := range anyCalls() {
		b.gives(do(c), plain(f.Do(c)))
	}
	if string(b.d.Image()) != string(d.Image()) {
		t.Errorf("P21.9: calls through the table leave other bytes than the file system's own")
	}
	b.right("calls")
}

// P21.9: what is open changes no answer, but what is free, and which inode is the lowest one of those.
func TestDoBesideOpenFiles(t *testing.T) {
	b := wood(t)
	d := opened(t, b.d.Image()).d
	f, _ := vfs.Mount(d)
	b.opens(0, "/f", rw)
	b.opens(1, "/d/g", r)
	for _, c := range anyCalls() {
		if c.Kind == api.CallRoom {
			continue
		}
		got, want := b.call(do(c)), plain(f.Do(c))
		if got.a.N > 0 && (c.Kind == api.CallCreate || c.Kind == api.CallMkdir || c.Kind == api.CallSymlink) {
			got.a.N, want.a.N = 0, 0
		}
		if !same(got, want) {
			t.Errorf("P21.9: %v beside open files: %v, want %v", do(c), got, want)
		}
	}
	b.closesAll()
	if got, want := b.Do(room().c), f.Do(room().c); got.Room != want.Room {
		t.Errorf("P21.10: behind all Closes %+v is free, want %+v", got.Room, want.Room)
	}
}

// grove is a file system with open files: 0 of /a (inode 2, three blocks), 1 of /b (3, two blocks); /c (4, one block) is not open. 20 blocks and 11 inodes are free.
func grove(t *testing.T) *desk {
	t.Helper()
	b := fresh(t, 128)
	b.opens(0, "/a", rw|create)
	b.opens(1, "/b", rw|create)
	b.does(creates("/c"), writes(0, pattern(1500)), writes(1, pattern(600)), writeTo("/c", 0, "c"))
	b.free(20, 11)
	return b
}

// P21.9, P21.10: a name that is taken away of a file that is open, of one that isn't, of one of two names.
func TestUnlink(t *testing.T) {
	b := grove(t)
	// What isn't open goes at once.
	b.gives(unlink("/c"), out{})
	b.free(21, 12)
	b.right("an Unlink of what isn't open")
	// What is open stays, and its inode and blocks with it.
	b.gives(unlink("/a"), out{})
	b.right("an Unlink of what is open", 2)
	b.refuses(api.ErrNone, lstat("/a"), unlink("/a"), opens("/a", r))
	b.free(21, 12)
	b.does(seeks(0, 0, 0))
	b.reads(0, 16384, pattern(1500))
	b.tells(writes(0, pattern(700)), 700)
	b.is(0, 2, 0, 2200, 5)
	b.free(19, 12)
	// A new file of that name is another one.
	b.opens(2, "/a", rw|create|excl)
	b.is(2, 4, 1, 0, 0)
	b.tells(writes(2, "new"), 3)
	b.does(seeks(0, 0, 0), seeks(2, 0, 0))
	b.reads(0, 3, pattern(3))
	b.reads(2, 9, "new")
	b.free(18, 11)
	b.does(closes(0))
	b.free(23, 12)
	b.right("its last Close")
	b.reads(2, 9, "")
	b.closesAll()
}

// P21.9, P21.10: of an inode with two names the first that goes leaves it with the other, the second leaves an orphan.
func TestUnlinkOfTwoNames(t *testing.T) {
	b := grove(t)
	b.does(link("/a", "/too"), unlink("/a"))
	b.right("an Unlink of one of two names")
	b.is(0, 2, 1, 1500, 3)
	b.tells(dups(0), 2)
	b.opens(3, "/too", r)
	b.does(unlink("/too"))
	b.right("an Unlink of the other", 2)
	b.does(closes(3), closes(0))
	b.right("Closes of two of three numbers", 2)
	b.is(2, 2, 0, 1500, 3)
	b.does(closes(2))
	b.free(23, 12)
	b.right("the last Close")

	// An inode that still has a name stays behind the last Close, and goes with its last name.
	b.does(link("/b", "/too"), unlink("/b"), closes(1))
	b.free(23, 12)
	b.holds("/too", pattern(600))
	b.does(unlink("/too"))
	b.free(25, 13)
	b.right("an Unlink of what isn't open any more")
}

// P21.9: of a symbolic link that leads to an open file the link itself goes, and the file stays as it is.
func TestUnlinkOfLinks(t *testing.T) {
	b := grove(t)
	b.does(symlink("a", "/l"), symlink("none", "/m"), opens("/l", r))
	b.is(2, 2, 1, 1500, 3)
	b.free(18, 9)
	b.gives(unlink("/l"), out{})
	b.gives(unlink("/m"), out{})
	b.free(20, 11)
	b.is(2, 2, 1, 1500, 3)
	b.right("Unlinks of symbolic links")
	// Through a link to a directory the name is the file's.
	b.does(mkdir("/d"), symlink("d", "/k"), rename("/a", "/k/a"), unlink("/k/a"))
	b.is(0, 2, 0, 1500, 3)
	b.right("an Unlink through a link", 2)
	b.does(closes(0))
	b.right("a Close of one of two", 2)
	b.closesAll()
}

// P21.9: Unlink and Rename that are refused, in the file system's own words; what is open stays as it is.
func TestUnlinkIsRefused(t *testing.T) {
	b := grove(t)
	b.does(mkdir("/d"), creates("/d/x"))
	b.refuses(api.ErrNone, unlink("/none"), unlink("/d/none"), unlink("/none/x"), rename("/none", "/a"), rename("/a", "/none/x"))
	b.refuses(api.ErrNotDir, unlink("/a/x"), rename("/a/x", "/b"), rename("/b", "/a/x"), rename("/d", "/a"))
	b.refuses(api.ErrIsDir, unlink("/d"), unlink("/"), rename("/a", "/d"))
	b.refuses(api.ErrBusy, rename("/", "/a"), rename("/a", "/"))
	b.refuses(api.ErrInval, unlink(""), unlink("a"), unlink("/."), unlink("/a/."), unlink("/d/.."), rename("", "/a"), rename("/a", ""), rename("/a", "/b/."), rename("/c/.", "/a"), rename("/d", "/d/y"))
	b.refuses(api.ErrTooLong, unlink("/"+rep("x", 28)), rename("/"+rep("x", 28), "/a"), rename("/a", rep("/x", 33)))
	b.is(0, 2, 1, 1500, 3)
	b.is(1, 3, 1, 600, 2)
	b.right("calls that are refused")
	b.closesAll()
}

// P21.9, P21.10: what a Rename takes the place of stays, if it is open, and goes at once, if it isn't; what is renamed is open as before.
func TestRename(t *testing.T) {
	// Both are open.
	b := grove(t)
	b.gives(rename("/b", "/a"), out{})
	b.right("a Rename onto what is open", 2)
	b.is(0, 2, 0, 1500, 3)
	b.is(1, 3, 1, 600, 2)
	b.holds("/a", pattern(600))
	b.free(20, 11)
	b.tells(writes(0, pattern(100)), 100)
	b.holds("/a", pattern(600))
	b.does(closes(0))
	b.free(23, 12)
	b.closesAll()

	// What is renamed alone is open: what had the other name goes at once.
	b = grove(t)
	b.gives(rename("/a", "/c"), out{})
	b.right("a Rename of what is open")
	b.is(0, 2, 1, 1500, 3)
	b.free(21, 12)
	b.does(closes(0))
	b.holds("/c", pattern(1500))
	b.free(21, 12)
	b.closesAll()

	// What has the other name alone is open.
	b = grove(t)
	b.gives(rename("/c", "/b"), out{})
	b.right("a Rename onto what is open", 3)
	b.holds("/b", "c")
	b.is(1, 3, 0, 600, 2)
	b.does(closes(1))
	b.free(22, 12)
	b.closesAll()

	// To a name that isn't there; to its own name; to another of its names.
	b = grove(t)
	b.gives(rename("/a", "/new"), out{})
	b.is(0, 2, 1, 1500, 3)
	b.does(link("/new", "/also"))
	b.gives(rename("/new", "/also"), out{})
	b.gives(rename("/new", "/new"), out{})
	b.is(0, 2, 2, 1500, 3)
	// Onto one of two names of what is open: it has the other still.
	b.gives(rename("/b", "/also"), out{})
	b.is(0, 2, 1, 1500, 3)
	b.right("Renames")
	// Onto a symbolic link that leads to what is open, and of one onto what is open.
	b.does(symlink("new", "/l"))
	b.gives(rename("/c", "/l"), out{})
	b.is(0, 2, 1, 1500, 3)
	b.right("a Rename onto a link")
	b.does(symlink("l", "/k"))
	b.gives(rename("/k", "/new"), out{})
	b.is(0, 2, 0, 1500, 3)
	b.right("a Rename of a link", 2)
	b.closesAll()
}

// P21.9: a directory with open files in it is renamed, and in the place of an empty one.
func TestRenameOfDirectories(t *testing.T) {
	b := grove(t)
	b.does(mkdir("/d"), mkdir("/e"), rename("/a", "/d/a"), rename("/d", "/e"))
	b.is(0, 2, 1, 1500, 3)
	b.refuses(api.ErrNotEmpty, rmdir("/e"))
	b.does(unlink("/e/a"), rmdir("/e"))
	b.right("a directory that is gone", 2)
	b.does(seeks(0, 0, 0))
	b.reads(0, 16384, pattern(1500))
	b.closesAll()
	// The root's block, /b's two and /c's one are taken.
	b.free(23, 12)
}

// P21.10: one inode after another is open, without a name, and none of them is anybody else's till its Close.
func TestManyOrphans(t *testing.T) {
	b := fresh(t, 128)
	for fd := range 12 {
		b.opens(fd, "/f", rw|create|excl)
		b.tells(writes(fd, fmt.Sprint("file ", fd)), len(fmt.Sprint("file ", fd)))
		b.does(unlink("/f"))
		b.is(fd, fd+2, 0, len(fmt.Sprint("file ", fd)), 1)
	}
	b.free(14, 2)
	b.right("twelve of them", 2, 3, 4, 5, 6, 7, 8, 9, 10, 11, 12, 13)
	b.does(creates("/x"), creates("/y"))
	b.refuses(api.ErrSpace, creates("/z"), opens("/z", w|create))
	for fd := range 12 {
		b.does(seeks(fd, 0, 0))
		b.reads(fd, 99, fmt.Sprint("file ", fd))
	}
	for i, fd := range []int{5, 0, 11, 3, 1, 2, 4, 10, 9, 8, 7, 6} {
		b.does(closes(fd))
		b.free(15+i, 1+i)
	}
	b.right("all Closes")
	b.opens(0, "/f", w|create)
	b.is(0, 2, 1, 0, 0)
	b.closesAll()
}

// P21.3: Close of one of several numbers leaves the others; of the last one of an inode with a name it drops nothing.
func TestClose(t *testing.T) {
	b := grove(t)
	b.tells(dups(0), 2)
	b.opens(3, "/a", r)
	before := b.steps()
	for _, fd := range []int{0, 3, 2, 1} {
		b.gives(closes(fd), out{})
		b.refuses(api.ErrFd, ofNumber(fd)...)
	}
	if b.steps() != before {
		t.Errorf("P21.3: Closes of files with names have %d steps", b.steps()-before)
	}
	b.free(20, 11)
	b.holds("/a", pattern(1500))
	b.holds("/b", pattern(600))
	b.right("Closes")
}

// P21.3: two Opens, no Dup: an inode without a name stays till both are closed, in either order.
func TestCloseOfTwoOpens(t *testing.T) {
	for _, order := range [][]int{{0, 2}, {2, 0}} {
		b := grove(t)
		b.opens(2, "/a", r)
		b.does(unlink("/a"), closes(order[0]))
		b.right("a Close of one of two", 2)
		b.is(order[1], 2, 0, 1500, 3)
		b.free(20, 11)
		b.does(closes(order[1]))
		b.right("a Close of both")
		b.free(23, 12)
		// Its inode is another file's by now: a number of that one is closed with no harm.
		b.does(creates("/x"))
		b.opens(0, "/x", r)
		b.is(0, 2, 1, 0, 0)
		b.does(closes(0))
		b.gives(lstat("/x"), out{a: api.Answer{Stat: api.Stat{Inode: 2, Kind: api.KindFile, Links: 1}}})
	}
}
