package vfs_test

import (
	"testing"

	"bole/adisk"
	"bole/api"
	"bole/check"
	"bole/vfs"
)

func answerOf(free, blocks, inodes, all int) api.Answer {
	return api.Answer{Room: api.Room{FreeBlocks: free, Blocks: blocks, FreeInodes: inodes, Inodes: all}}
}

// The chapter's examples 1 to 4.
func TestExamplesOfCalls(t *testing.T) {
	b := fresh(t, 128)
	b.answers(room(), answerOf(27, 27, 14, 15))
	b.lists("/")
	b.makes(create("/a"), 2)
	b.is("/a", 2, 1, 1, 0, 0)
	b.is("/", 1, 2, 2, 512, 1)
	b.answers(room(), answerOf(26, 27, 13, 15))

	b.makes(write("/a", 1000, "hello"), 5)
	b.is("/a", 2, 1, 1, 1005, 1)
	b.answers(read("/a", 998, 100), api.Answer{N: 7, Data: "\x00\x00hello"})
	b.answers(read("/a", 1005, 100), api.Answer{})
	b.answers(read("/a", 1<<62, 100), api.Answer{})
	b.refuses(api.ErrInval, read("/a", 0, 16385), read("/a", -1, 1), read("/x", 0, -1))
	b.refuses(api.ErrIsDir, read("/", 0, 1))
	b.refuses(api.ErrNone, read("/x", 0, 1))

	b.makes(write("/a", 8459264, ""), 0)
	b.is("/a", 2, 1, 1, 1005, 1)
	b.refuses(api.ErrBig, write("/a", 8459264, "x"), write("/a", 1<<63-1, "xy"), write("/a", 8459265, ""))
	b.answers(truncate("/a", 8459264), api.Answer{})
	b.is("/a", 2, 1, 1, 8459264, 1)
	b.refuses(api.ErrBig, truncate("/a", 8459265))

	b.refuses(api.ErrInval, do(api.Call{}), do(api.Call{Kind: 16}), readlink("/a"))
	b.makes(symlink("a", "/l"), 3)
	b.refuses(api.ErrInval, readAt(3, 0, 1))
	b.refuses(api.ErrNotDir, readdir("/a"))
}

// The chapter's examples 5 and 6.
func TestExamplesOfNumbers(t *testing.T) {
	b := fresh(t, 128)
	b.makes(create("/a"), 2)
	b.tellsNumber(open("/a", false, true), 2)
	b.refuses(api.ErrExist, open("/a", true, true))
	b.tellsNumber(open("/a", true, false), 2)
	b.tellsNumber(open("/n", true, true), 3)
	b.refuses(api.ErrIsDir, open("/", true, false), open("/", false, false))
	b.refuses(api.ErrExist, open("/", true, true))
	b.refuses(api.ErrInode, readAt(0, 0, 1), readAt(9, 0, 1), readAt(16, 0, 1))
	b.refuses(api.ErrIsDir, readAt(1, 0, 1))
	b.refuses(api.ErrInval, readAt(0, -1, 1))

	b.tellsNumber(unlinkAs("/a", true), 2)
	b.gives(statAt(2), out{stat: api.Stat{Inode: 2, Kind: 1}})
	b.gives(writeAt(2, 0, "z"), out{})
	b.gives(release(2), out{})
	b.refuses(api.ErrInode, statAt(2), release(2))
	b.refuses(api.ErrInval, release(1), release(3))
}

// refusesMount holds that an image is none that Mount takes, and that it is left as it is.
func refusesMount(t *testing.T, what any, d *adisk.Disk) {
	t.Helper()
	before, pending := string(d.Image()), d.Pending()
	f, e := vfs.Mount(d)
	if f != nil || e != api.ErrMount {
		t.Errorf("P20.2: Mount of %v: %v, %d", what, f, e)
	}
	if n := steps(d); n > 0 || string(d.Image()) != before || len(d.Pending()) != len(pending) {
		t.Errorf("P20.2: Mount of %v has %d steps", what, n)
	}
}

// The chapter's example 7.
func TestExamplesOfMount(t *testing.T) {
	for _, n := range []int{127, 128} {
		d, _ := adisk.New(n)
		refusesMount(t, n, d)
	}
	image := fresh(t, 128).d.Image()
	for i := range 512 {
		image[i] ^= 1
		refusesMount(t, "a super block with a byte turned", disk(t, image))
		image[i] ^= 1
	}
	image[99*size+64] = 1
	refusesMount(t, "a file as inode 1", disk(t, image))
}

// The document's examples 1 to 4, 9 and 10 of the whole.
func TestExamplesOfTheWhole(t *testing.T) {
	b := fresh(t, 128)
	b.answers(room(), answerOf(27, 27, 14, 15))
	b.makes(mkdir("/d"), 2)
	b.makes(create("/d/a"), 3)
	b.makes(write("/d/a", 1000, "hello"), 5)
	b.is("/d/a", 3, 1, 1, 1005, 1)
	b.answers(read("/d/a", 510, 4), api.Answer{N: 4, Data: zeros(4)})
	b.answers(room(), answerOf(24, 27, 12, 15))

	b.refuses(api.ErrExist, create("/d/a"))
	b.refuses(api.ErrNone, create("/x/y"))
	b.refuses(api.ErrNotDir, create("/d/a/b"))
	b.refuses(api.ErrInval, mkdir("/.."), rename("/d", "/d/e"))
	b.refuses(api.ErrIsDir, unlink("/d"), read("/d", 0, 1))
	b.refuses(api.ErrNotEmpty, rmdir("/d"))
	b.refuses(api.ErrBusy, rename("/", "/e"))
	b.refuses(api.ErrBig, write("/d/a", 8459264, "x"))

	b.makes(symlink("../d", "/d/s"), 4)
	b.answers(stat("/d/s/s/a"), api.Answer{Stat: api.Stat{Inode: 3, Kind: 1, Links: 1, Size: 1005, Blocks: 1}})
	b.makes(symlink("s", "/s"), 5)
	b.refuses(api.ErrLoop, stat("/s"))
	b.is("/s", 5, 3, 1, 1, 1)
	b.answers(readlink("/d/s"), api.Answer{Data: "../d"})

	before := b.Do(room().c)
	b.refuses(api.ErrInval, write("/d/a", 0, rep("x", 16385)))
	b.refuses(api.ErrSpace, write("/d/a", 0, rep("x", 16384)))
	b.answers(room(), before)

	image := b.d.Image()
	image[98*size] = 0
	refusesMount(t, "an image whose first eight blocks are free", disk(t, image))
	if l := check.Image(image); len(l) != 8 {
		t.Errorf("check finds %v", few(l))
	}
}

// The document's examples 5 to 7 of the whole.
func TestExamplesOfCuts(t *testing.T) {
	b := fresh(t, 128)
	b.does(mkdir("/d"), create("/d/a"), write("/d/a", 1000, "hello"), symlink("../d", "/d/s"), symlink("s", "/s"))
	b.d.Arm(api.Crash{At: 2})
	b.findsDown(unlink("/d/a"), room())
	b = b.copy()
	b.is("/d/a", 3, 1, 1, 1005, 1)

	b.d.Arm(api.Crash{At: 12})
	b.findsDown(unlink("/d/a"))
	d := disk(t, b.d.Image())
	d.Arm(api.Crash{At: 1})
	if f, e := vfs.Mount(d); f != nil || e != api.ErrDown {
		t.Errorf("P20.2: the power goes in Mount: %v, %d", f, e)
	}
	b = opened(t, d.Image())
	b.refuses(api.ErrNone, stat("/d/a"))
	b.right("two cuts")

	b.tellsNumber(open("/d/b", true, false), 3)
	b.gives(writeAt(3, 0, "text"), out{})
	b.tellsNumber(unlinkAs("/d/b", true), 3)
	b.gives(statAt(3), out{stat: api.Stat{Inode: 3, Kind: 1, Size: 4, Blocks: 1}})
	if l := check.Image(b.d.Image()); len(l) != 1 || l[0] != (api.Finding{Kind: api.FindOrphan, Inode: 3}) {
		t.Errorf("P0.5: check finds %v", few(l))
	}
	b.d.Crash(nil)
	b = b.copy()
	if l := check.Image(b.d.Image()); len(l) != 0 {
		t.Errorf("P20.2: behind Mount check finds %v", few(l))
	}
}
