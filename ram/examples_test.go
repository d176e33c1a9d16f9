package ram_test

import (
	"fmt"
	"testing"

	"bole/api"
	"bole/ram"
)

// Example 1 of the chapter.
func TestExampleNew(t *testing.T) {
	for _, n := range []int{127, 16385, -1} {
		if f, e := ram.New(n); f != nil || e != api.ErrGeo {
			t.Errorf("P18.1: New(%d): %v, %d", n, f, e)
		}
	}
	b := fresh(t, 128)
	b.answers(room(), api.Answer{Room: api.Room{FreeBlocks: 27, Blocks: 27, FreeInodes: 14, Inodes: 15}})
	b.answers(stat("/"), api.Answer{Stat: api.Stat{Inode: 1, Kind: 2, Links: 2}})
}

// Example 2.
func TestExampleNames(t *testing.T) {
	b := fresh(t, 128)
	b.makes(create("/a"), 2)
	b.answers(room(), api.Answer{Room: api.Room{FreeBlocks: 26, Blocks: 27, FreeInodes: 13, Inodes: 15}})
	b.is("/", 1, 2, 2, 512, 1)
	for i := range 15 {
		b.answers(link("/a", fmt.Sprint("/l", i)), api.Answer{})
	}
	b.is("/", 1, 2, 2, 512, 1)
	b.answers(link("/a", "/l15"), api.Answer{})
	b.is("/", 1, 2, 2, 1024, 2)
	for i := range 13 {
		b.makes(create(fmt.Sprint("/c", i)), 3+i)
	}
	b.refuses(api.ErrSpace, create("/one more"))
}

// Example 3.
func TestExampleBytes(t *testing.T) {
	b := fresh(t, 128)
	b.does(create("/a"))
	b.makes(write("/a", 5100, rep("x", 100)), 100)
	b.is("/a", 2, 1, 1, 5200, 3)
	b.answers(truncate("/a", 5120), api.Answer{})
	b.is("/a", 2, 1, 1, 5120, 1)
	b.answers(truncate("/a", 6000), api.Answer{})
	b.is("/a", 2, 1, 1, 6000, 1)
}

// Examples 4 and 5.
func TestExampleCounts(t *testing.T) {
	for _, c := range []struct {
		l []int
		n int
		e api.Errno
	}{{nil, 0, 0}, {[]int{0, 9}, 2, 0}, {[]int{10}, 2, 0}, {[]int{10, 137, 10}, 3, 0}, {[]int{138}, 3, 0}, {[]int{138, 265, 266}, 6, 0}, {[]int{0, 10, 138}, 6, 0}, {[]int{16521}, 3, 0}, {[]int{16522}, 0, api.ErrFar}, {[]int{-1, 0}, 0, api.ErrFar}} {
		takes(t, c.l, c.n, c.e)
	}
	bound(t, api.Call{Kind: api.CallStat}, 0, 0)
	bound(t, api.Call{Kind: api.CallCreate}, 26, 4)
	bound(t, api.Call{Kind: api.CallWrite, Data: rep("x", 16384)}, 90, 4)
	bound(t, api.Call{Kind: api.CallSymlink, Other: rep("x", 1024)}, 30, 4)
	bound(t, api.Call{Kind: 99}, 0, 0)
}

// Example 6.
func TestExampleCopy(t *testing.T) {
	b := fresh(t, 128)
	b.does(create("/a"))
	c := b.copy()
	b.answers(unlink("/a"), api.Answer{})
	c.is("/a", 2, 1, 1, 0, 0)
	b.refuses(api.ErrNone, lstat("/a"))
}

// The examples of the whole that need no power cut (DOC.md: 1 to 4 and 9).
func TestExamplesOfTheWhole(t *testing.T) {
	b := fresh(t, 128)
	b.makes(mkdir("/d"), 2)
	b.makes(create("/d/a"), 3)
	b.makes(write("/d/a", 1000, "hello"), 5)
	b.is("/d/a", 3, 1, 1, 1005, 1)
	b.answers(read("/d/a", 510, 4), api.Answer{N: 4, Data: "\x00\x00\x00\x00"})
	b.free(24, 12)
	b.refuses(api.ErrExist, create("/d/a"))
	b.refuses(api.ErrNone, create("/x/y"))
	b.refuses(api.ErrNotDir, create("/d/a/b"))
	b.refuses(api.ErrInval, mkdir("/.."), rename("/d", "/d/e"))
	b.refuses(api.ErrIsDir, unlink("/d"), read("/d", 0, 1))
	b.refuses(api.ErrNotEmpty, rmdir("/d"))
	b.refuses(api.ErrBusy, rename("/", "/e"))
	b.refuses(api.ErrBig, write("/d/a", 8459264, "x"))
	b.makes(symlink("../d", "/d/s"), 4)
	b.answers(stat("/d/s/s/a"), api.Answer{Stat: api.Stat{Inode: 3, Kind: 1, Links: 1, Size: 1005, Blocks: 1}})
	b.makes(symlink("s", "/s"), 5)
	b.refuses(api.ErrLoop, stat("/s"))
	b.is("/s", 5, 3, 1, 1, 1)
	b.answers(readlink("/d/s"), api.Answer{Data: "../d"})
	b.refuses(api.ErrInval, write("/d/a", 0, rep("x", 16385)))
	b.refuses(api.ErrSpace, write("/d/a", 0, rep("x", 16384)))
}

// The examples of chapter 16, as they are seen through Stat and Lstat: which inode a path leads to, or the error.
func TestExamplesOfWalks(t *testing.T) {
	b := fresh(t, 128)
	b.does(mkdir("/a"), mkdir("/a/b"), create("/a/b/f"), symlink("a/b", "/l"), symlink("..", "/a/up"), symlink("/loop", "/loop"), symlink("/", "/a/b/top"))
	for _, c := range []struct {
		s      string
		follow bool
		n      int
		e      api.Errno
	}{
		{"/", true, 1, 0}, {"/a", false, 2, 0}, {"/a/b/f", false, 4, 0}, {"/a/b/..", false, 2, 0}, {"/..", true, 1, 0},
		{"/l", false, 5, 0}, {"/l", true, 3, 0}, {"/l/f", false, 4, 0}, {"/l/..", false, 2, 0},
		{"/a/up", true, 1, 0}, {"/a/up/a", false, 2, 0}, {"/a/b/top/l/f", false, 4, 0},
		{"/x", true, 0, api.ErrNone}, {"/x/y", true, 0, api.ErrNone}, {"/a/x/..", true, 0, api.ErrNone},
		{"/a/b/f/x", true, 0, api.ErrNotDir}, {"/a/b/f/..", true, 0, api.ErrNotDir}, {"/a/b/f/.", false, 4, 0},
		{"/loop", false, 7, 0}, {"/loop", true, 0, api.ErrLoop}, {"/loop/x", false, 0, api.ErrLoop}, {"a", true, 0, api.ErrInval},
		{"/l/", false, 5, 0}, {"/l/.", false, 5, 0}, {"/l/../l", true, 0, api.ErrNone}, {"/a/b/top", true, 1, 0}, {"/a/b/top/..", true, 1, 0},
	} {
		p := lstat(c.s)
		if c.follow {
			p = stat(c.s)
		}
		if a := b.Do(p.c); a.Stat.Inode != c.n || a.Err != c.e {
			t.Errorf("P18.2: %v leads to %d, %d, want %d, %d", p, a.Stat.Inode, a.Err, c.n, c.e)
		}
	}
	b.makes(create("/l/x"), 9)
	b.is("/a/b/x", 9, 1, 1, 0, 0)
	b.refuses(api.ErrExist, create("/a/b"), create("/loop"), create("/"))
	b.refuses(api.ErrInval, create("/a/.."))
	b.refuses(api.ErrNone, create("/x/y"))
	b.refuses(api.ErrNotDir, create("/a/b/f/x"))
}

// The examples of chapter 17.
func TestExamplesOfActs(t *testing.T) {
	b := fresh(t, 128)
	b.makes(create("/a"), 2)
	b.free(26, 13)
	b.refuses(api.ErrExist, create("/a"), mkdir("/a"), symlink("x", "/a"), create("/"))
	b.refuses(api.ErrNone, create("/b/c"))
	b.refuses(api.ErrNotDir, create("/a/c"))
	b.refuses(api.ErrInval, create("/."), create("a"), create(""))
	b.makes(mkdir("/d"), 3)
	b.is("/", 1, 2, 3, 512, 1)
	b.is("/d", 3, 2, 2, 0, 0)
	b.answers(link("/a", "/d/e"), api.Answer{})
	b.is("/d", 3, 2, 2, 512, 1)
	b.is("/a", 2, 1, 2, 0, 0)
	b.refuses(api.ErrPerm, link("/d", "/f"), link("/", "/f"))
	b.refuses(api.ErrNone, link("/x", "/f"))
	b.refuses(api.ErrExist, link("/a", "/d"), link("/a", "/"))
	b.makes(symlink("d/e", "/s"), 4)
	b.is("/s", 4, 3, 1, 3, 1)
	b.refuses(api.ErrInval, symlink("", "/q"))
	b.answers(link("/s", "/t"), api.Answer{})
	b.is("/t", 4, 3, 2, 3, 1)
	b.refuses(api.ErrNotDir, create("/s/x"))
	b.gives(unlinkAs("/a", true), out{})
	b.is("/d/e", 2, 1, 1, 0, 0)
	b.gives(unlinkAs("/d/e", true), out{n: 2})
	b.gives(release(2), out{})
	b.refuses(api.ErrInval, release(1))
	b.refuses(api.ErrInode, release(2), release(0), release(16))
	b.refuses(api.ErrIsDir, unlinkAs("/d", false), unlinkAs("/", false))
	b.refuses(api.ErrNone, unlinkAs("/a", false))
	b.gives(unlinkAs("/s", true), out{})
	b.gives(unlinkAs("/t", true), out{})
	b.refuses(api.ErrInode, statAt(4))
	b.refuses(api.ErrBusy, rmdir("/"))
	b.refuses(api.ErrInval, rmdir("/d/."))
	b.does(create("/d/x"))
	b.refuses(api.ErrNotEmpty, rmdir("/d"))
	b.does(unlink("/d/x"))
	b.free(25, 13)
	b.answers(rmdir("/d"), api.Answer{})
	b.is("/", 1, 2, 2, 512, 1)
	b.free(26, 14)
}

// Example 6 of chapter 17.
func TestExamplesOfRename(t *testing.T) {
	b := fresh(t, 128)
	b.does(mkdir("/p"), mkdir("/p/q"), create("/f"), create("/g"))
	b.refuses(api.ErrInval, rename("/p", "/p/q/r"))
	b.refuses(api.ErrNotEmpty, rename("/p/q", "/p"))
	b.refuses(api.ErrIsDir, rename("/f", "/p"))
	b.refuses(api.ErrNotDir, rename("/p", "/f"))
	b.refuses(api.ErrBusy, rename("/", "/x"), rename("/f", "/"))
	b.unchanged(rename("/f", "/f"))
	b.gives(renameAs("/f", "/g", true), out{n: 5})
	b.refuses(api.ErrNone, rename("/x", "/p/y/z"))
	b.answers(rename("/p/q", "/q"), api.Answer{})
	b.is("/", 1, 2, 4, 512, 1)
	b.is("/p", 2, 2, 2, 512, 1)
}

// The examples of chapter 20 that speak of no disk.
func TestExamplesOfVfs(t *testing.T) {
	b := fresh(t, 128)
	b.lists("/")
	b.makes(create("/a"), 2)
	b.is("/a", 2, 1, 1, 0, 0)
	b.makes(write("/a", 1000, "hello"), 5)
	b.is("/a", 2, 1, 1, 1005, 1)
	b.answers(read("/a", 998, 100), api.Answer{N: 7, Data: "\x00\x00hello"})
	b.answers(read("/a", 1005, 1), api.Answer{})
	b.answers(read("/a", 1<<62, 1), api.Answer{})
	b.refuses(api.ErrInval, read("/a", 0, 16385), read("/a", -1, 1), read("/x", 0, -1))
	b.refuses(api.ErrIsDir, read("/", 0, 1))
	b.refuses(api.ErrNone, read("/x", 0, 1))
	b.unchanged(write("/a", 8459264, ""))
	b.refuses(api.ErrBig, write("/a", 8459264, "x"), write("/a", 1<<63-1, "xy"), write("/a", 8459265, ""), truncate("/a", 8459265))
	b.answers(truncate("/a", 8459264), api.Answer{})
	b.is("/a", 2, 1, 1, 8459264, 1)
	b.refuses(api.ErrInval, do(api.Call{Kind: 0}), do(api.Call{Kind: 16}), readlink("/a"))
	b.refuses(api.ErrNotDir, readdir("/a"))
	b.gives(open("/a", false, true), out{n: 2})
	b.refuses(api.ErrExist, open("/a", true, true), open("/", true, true))
	b.gives(open("/a", true, false), out{n: 2})
	b.gives(open("/n", true, true), out{n: 3})
	b.refuses(api.ErrIsDir, open("/", true, false), open("/", false, false), readAt(1, 0, 1))
	b.refuses(api.ErrInode, readAt(0, 0, 1), readAt(9, 0, 1), readAt(16, 0, 1))
	b.refuses(api.ErrInval, readAt(0, -1, 1))
	b.gives(unlinkAs("/a", true), out{n: 2})
	b.gives(statAt(2), out{stat: api.Stat{Inode: 2, Kind: 1, Size: 8459264, Blocks: 1}})
	b.gives(writeAt(2, 0, "z"), out{})
	b.gives(release(2), out{})
	b.refuses(api.ErrInode, statAt(2), release(2))
	b.refuses(api.ErrInval, release(1), release(3))
	b.does(symlink("a", "/s"))
	b.refuses(api.ErrInval, readAt(2, 0, 1))
}
