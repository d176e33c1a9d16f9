package ram_test

import (
	"fmt"
	"math"
	"testing"

	"bole/api"
	"bole/ram"
)

// P18.1: which numbers of blocks there are, and how much is free behind New of each.
func TestNew(t *testing.T) {
	for _, n := range []int{math.MinInt, -1 << 40, -128, -1, 0, 1, 127, 16385, 16386, 1 << 20, 1<<32 + 128, math.MaxInt} {
		if f, e := ram.New(n); f != nil || e != api.ErrGeo {
			t.Errorf("P18.1: New(%d): %v, %d", n, f, e)
		}
	}
	for n := 128; n <= 16384; n++ {
		b := fresh(t, n)
		blocks, inodes := n-98-(n+4095)/4096-n/64, 8*(n/64)-1
		b.answers(room(), api.Answer{Room: api.Room{FreeBlocks: blocks, Blocks: blocks, FreeInodes: inodes - 1, Inodes: inodes}})
		if n > 200 && n < 16300 {
			n += 30
		}
	}
}

// P18.1: the root alone, a directory without a name and without a block, Links 2.
func TestNewTree(t *testing.T) {
	for _, n := range []int{128, 129, 500, 4096, 4097, 16384} {
		b := fresh(t, n)
		b.is("/", 1, 2, 2, 0, 0)
		b.lists("/")
		b.gives(statAt(1), out{stat: api.Stat{Inode: 1, Kind: 2, Links: 2}})
		count := b.Do(room().c).Room.Inodes + 1
		for i := 2; i < count; i++ {
			if _, e := b.StatAt(i); e != api.ErrInode {
				t.Fatalf("P18.1: New(%d): inode %d is there: %d", n, i, e)
			}
		}
		b.next(2)
	}
}

// P18.1: two of New are two.
func TestNewAndNew(t *testing.T) {
	a, b := fresh(t, 128), fresh(t, 128)
	a.does(create("/a"), write("/a", 0, "x"))
	b.lists("/")
	b.free(27, 14)
}

// P18.2: ordinary calls of every Kind, each with what it answers and nothing else.
func TestKinds(t *testing.T) {
	b := fresh(t, 128)
	b.makes(create("/f"), 2)
	b.makes(mkdir("/d"), 3)
	b.makes(symlink("../f", "/d/s"), 4)
	b.makes(write("/d/s", 3, "oak"), 3)
	b.answers(read("/f", 0, 100), api.Answer{N: 6, Data: "\x00\x00\x00oak"})
	b.answers(read("/d/s", 4, 1), api.Answer{N: 1, Data: "a"})
	b.answers(truncate("/d/s", 5), api.Answer{})
	b.holds("/f", "\x00\x00\x00oa")
	b.answers(link("/f", "/d/g"), api.Answer{})
	b.answers(stat("/d/s"), api.Answer{Stat: api.Stat{Inode: 2, Kind: 1, Links: 2, Size: 5, Blocks: 1}})
	b.answers(lstat("/d/s"), api.Answer{Stat: api.Stat{Inode: 4, Kind: 3, Links: 1, Size: 4, Blocks: 1}})
	b.answers(readlink("/d/s"), api.Answer{Data: "../f"})
	b.answers(readdir("/d"), api.Answer{Names: []string{"g", "s"}})
	b.answers(rename("/d/g", "/e"), api.Answer{})
	b.lists("/", "d", "e", "f")
	b.lists("/d", "s")
	b.answers(unlink("/f"), api.Answer{})
	b.is("/e", 2, 1, 1, 5, 1)
	b.answers(unlink("/d/s"), api.Answer{})
	b.answers(rmdir("/d"), api.Answer{})
	b.answers(unlink("/e"), api.Answer{})
	b.lists("/")
	b.answers(room(), api.Answer{Room: api.Room{FreeBlocks: 26, Blocks: 27, FreeInodes: 14, Inodes: 15}})
	for _, kind := range noKinds() {
		b.refuses(api.ErrInval, do(api.Call{Kind: kind}), do(api.Call{Kind: kind, Path: "/f", Other: "/g", Data: "x", Size: 1}))
	}
}

// P18.2: fields that a Kind doesn't have are not looked at.
func TestOtherFields(t *testing.T) {
	bad := api.Call{Other: "\x00", Offset: -1, Size: -1, Data: rep("x", 16385)}
	with := func(kind int, s string) op {
		c := bad
		c.Kind, c.Path = kind, s
		return do(c)
	}
	b := fresh(t, 128)
	b.makes(with(api.CallCreate, "/f"), 2)
	b.makes(with(api.CallMkdir, "/d"), 3)
	b.answers(with(api.CallStat, "/f"), api.Answer{Stat: api.Stat{Inode: 2, Kind: 1, Links: 1}})
	b.answers(with(api.CallLstat, "/f"), api.Answer{Stat: api.Stat{Inode: 2, Kind: 1, Links: 1}})
	b.answers(with(api.CallReaddir, "/"), api.Answer{Names: []string{"d", "f"}})
	b.answers(with(api.CallRoom, "no path"), api.Answer{Room: api.Room{FreeBlocks: 26, Blocks: 27, FreeInodes: 12, Inodes: 15}})
	b.answers(with(api.CallUnlink, "/f"), api.Answer{})
	b.answers(with(api.CallRmdir, "/d"), api.Answer{})
	b.makes(do(api.Call{Kind: api.CallSymlink, Path: "/s", Other: "t", Offset: -1, Size: -1, Data: rep("x", 16385)}), 2)
	b.answers(with(api.CallReadlink, "/s"), api.Answer{Data: "t"})
	b.answers(do(api.Call{Kind: api.CallLink, Path: "/s", Other: "/t", Offset: -1, Size: -1, Data: rep("x", 16385)}), api.Answer{})
	b.answers(do(api.Call{Kind: api.CallRename, Path: "/s", Other: "/u", Offset: -1, Size: -1, Data: rep("x", 16385)}), api.Answer{})
	b.does(create("/f"))
	b.makes(do(api.Call{Kind: api.CallWrite, Path: "/f", Data: "abc", Size: -1, Other: "\x00"}), 3)
	b.answers(do(api.Call{Kind: api.CallRead, Path: "/f", Size: 9, Data: rep("x", 16385), Other: "\x00"}), api.Answer{N: 3, Data: "abc"})
	b.answers(do(api.Call{Kind: api.CallTruncate, Path: "/f", Size: 1, Offset: -1, Data: rep("x", 16385), Other: "\x00"}), api.Answer{})
	b.holds("/f", "a")
}

// makers are the calls that make something.
var makers = map[string]func(s string) op{
	"create":   create,
	"mkdir":    mkdir,
	"symlink":  func(s string) op { return symlink("t", s) },
	"open":     func(s string) op { return open(s, true, true) },
	"open too": func(s string) op { return open(s, true, false) },
}

// P18.2: what no path is, of each call that makes something.
func TestMakeWrongPaths(t *testing.T) {
	b := fresh(t, 128)
	b.does(mkdir("/a"))
	for _, make := range makers {
		for s, e := range noPaths {
			b.refuses(e, make(s))
		}
		for s, e := range noNames {
			b.refuses(e, make(s))
		}
	}
	for s, e := range noTexts {
		b.refuses(e, symlink(s, "/s"))
	}
}

// P18.2: a directory's sixteenth and seventeenth name; it gets a block when all that it has are full, and never loses one.
func TestNamesOfADirectory(t *testing.T) {
	b := fresh(t, 128)
	b.does(mkdir("/d"), create("/f"))
	b.is("/d", 2, 2, 2, 0, 0)
	free := 26
	for i := range 40 {
		b.does(link("/f", fmt.Sprint("/d/", i)))
		blocks := i/16 + 1
		b.is("/d", 2, 2, 2, 512*blocks, blocks)
		b.free(free-blocks, 12)
	}
	for i := range 40 {
		b.does(unlink(fmt.Sprint("/d/", i)))
		b.is("/d", 2, 2, 2, 1536, 3)
	}
	b.lists("/d")
	for i := range 48 {
		b.does(link("/f", fmt.Sprint("/d/again", i)))
		b.is("/d", 2, 2, 2, 1536, 3)
	}
	b.does(link("/f", "/d/one more"))
	b.is("/d", 2, 2, 2, 2048, 4)
	b.free(free-4, 12)
}

// P18.2: a directory that is taken away gives back all its blocks.
func TestRmdirGivesBack(t *testing.T) {
	b := fresh(t, 128)
	b.does(mkdir("/d"), create("/f"))
	for i := range 17 {
		b.does(link("/f", fmt.Sprint("/d/", i)))
	}
	b.free(24, 12)
	for i := range 17 {
		b.does(unlink(fmt.Sprint("/d/", i)))
	}
	b.does(rmdir("/d"))
	b.free(26, 13)
	b.next(2)
	b.makes(mkdir("/e"), 2)
	b.is("/e", 2, 2, 2, 0, 0)
}

// P18.2: a directory of more than ten blocks has a table, and one of more than 138 a table of tables.
func TestGreatDirectory(t *testing.T) {
	b := fresh(t, 1024)
	b.does(mkdir("/d"))
	left := 1024 - 98 - 1 - 16 - 1
	name := 0
	for i := range 3 {
		b.does(create(fmt.Sprint("/f", i)))
		for range 990 {
			b.does(link(fmt.Sprint("/f", i), fmt.Sprint("/d/", name)))
			name++
			blocks := (name + 15) / 16
			n, _ := ram.Takes(upTo(blocks))
			if a := b.Do(lstat("/d").c); a.Stat.Blocks != n || a.Stat.Size != 512*blocks {
				t.Fatalf("P18.2: a directory of %d names: %+v, want %d blocks", name, a.Stat, n)
			}
			if r := b.Do(room().c).Room; r.FreeBlocks != left-n {
				t.Fatalf("P18.2: with a directory of %d names %d blocks are free, want %d", name, r.FreeBlocks, left-n)
			}
		}
	}
}

func upTo(n int) []int {
	var l []int
	for k := range n {
		l = append(l, k)
	}
	return l
}

// P18.2: names are told by their bytes, whatever the order in which they came.
func TestReaddirSorts(t *testing.T) {
	b := fresh(t, 128)
	b.does(create("/b"), mkdir("/a"), create("/aa"), symlink("x", "/Z"), create("/\xff"), create("/ "), create("/a.b"), create("/..."), create("/10"), create("/9"))
	b.lists("/", sorted("b", "a", "aa", "Z", "\xff", " ", "a.b", "...", "10", "9")...)
	for range 20 {
		b.lists("/", sorted("b", "a", "aa", "Z", "\xff", " ", "a.b", "...", "10", "9")...)
	}
}

// P18.2: names of 27 bytes, and paths that lead over '.', '..' and slashes.
func TestMakeWays(t *testing.T) {
	b := fresh(t, 128)
	long := rep("n", 27)
	b.makes(mkdir("/"+long), 2)
	b.makes(create("//./"+long+"//x///"), 3)
	b.makes(create("/../"+long+"/../y"), 4)
	b.lists("/", long, "y")
	b.lists("/"+long+"/.", "x")
	b.lists("/"+long+"/..", long, "y")
	b.refuses(api.ErrNone, create("/z/../y2"), lstat("/"+long[:26]))
	b.refuses(api.ErrNotDir, create("/y/../y2"), create("/y/z"), lstat("/y/.."))
}

// P18.2: the lowest free number is the next one; the last free inode, and one more.
func TestNumbers(t *testing.T) {
	b := fresh(t, 128)
	for i := range 14 {
		b.next(2 + i)
		make := []func(s string) op{create, mkdir, makers["symlink"]}[i%3]
		b.makes(make(fmt.Sprint("/", i)), 2+i)
	}
	b.next(0)
	for _, make := range makers {
		b.refuses(api.ErrSpace, make("/x"))
	}
	b.does(unlink("/9"), rmdir("/4"), unlink("/2"))
	b.next(4)
	b.makes(mkdir("/x"), 4)
	b.next(6)
	b.does(unlink("/0"))
	b.next(2)
	b.gives(open("/y", true, false), out{n: 2})
	b.makes(symlink("q", "/z"), 6)
	b.makes(create("/w"), 11)
	b.refuses(api.ErrSpace, create("/v"), open("/v", true, true))
	// A name that makes no inode is still to be had.
	b.does(link("/w", "/v"))
	b.gives(open("/v", true, false), out{n: 11})
}

// P18.2: all inodes of a greater disk.
func TestAllNumbers(t *testing.T) {
	b := fresh(t, 700)
	for n := 2; n < 80; n++ {
		b.makes(create(fmt.Sprint("/", n)), n)
	}
	b.refuses(api.ErrSpace, create("/x"))
	b.does(unlink("/79"))
	b.makes(mkdir("/x"), 79)
}

// P18.2: Links of directories count those right inside.
func TestLinksOfDirectories(t *testing.T) {
	b := fresh(t, 128)
	b.does(mkdir("/a"), mkdir("/a/b"), mkdir("/a/c"), mkdir("/a/b/d"), create("/a/f"), symlink("b", "/a/s"))
	b.is("/", 1, 2, 3, 512, 1)
	b.is("/a", 2, 2, 4, 512, 1)
	b.is("/a/b", 3, 2, 3, 512, 1)
	b.is("/a/c", 4, 2, 2, 0, 0)
	b.does(rmdir("/a/c"), unlink("/a/f"), unlink("/a/s"))
	b.is("/a", 2, 2, 3, 512, 1)
	b.refuses(api.ErrNotEmpty, rmdir("/a"), rmdir("/a/b"))
	b.does(rmdir("/a/b/d"), rmdir("/a/b"), rmdir("/a"))
	b.is("/", 1, 2, 2, 512, 1)
	b.free(26, 14)
}

// P18.2, D7: names that lie 32 and 33 deep.
func TestDepth(t *testing.T) {
	b := fresh(t, 512)
	for i := range 31 {
		b.does(mkdir(rep("/d", i+1)))
	}
	at := rep("/d", 31)
	b.does(symlink(rep("/d", 31), "/s"), symlink(rep("d/", 31)+"e", "/t"), create("/f"), mkdir("/s/e"))
	b.does(create("/s/c"), symlink("x", "/s/l"), link("/f", "/s/k"))
	b.gives(open("/s/o", true, true), out{n: 39})
	b.lists(at, "c", "e", "k", "l", "o")
	for _, make := range makers {
		b.refuses(api.ErrTooLong, make("/t/x"), make("/s/e/x"), make(at+"/e/x"))
	}
	b.refuses(api.ErrTooLong, link("/f", "/t/x"), link("/f", "/s/e/x"), rename("/f", "/t/x"), rename("/s/c", "/t/x"))
	// A path that climbs is long without its name lying deep.
	b.does(create(at[2:] + "/../x"))
	b.lists("/t")
	b.does(rename("/f", "/s/f"))
}

// P18.2: what comes first where two or more are wrong with a call that makes something.
func TestMakeOrder(t *testing.T) {
	b := fresh(t, 600)
	for i := range 32 {
		b.does(mkdir(rep("/d", i+1)))
	}
	b.does(symlink(rep("d/", 32), "/deep"), create("/f"), symlink("loop", "/loop"))
	for i := 0; b.Do(room().c).Room.FreeInodes > 2; i++ {
		b.does(create(fmt.Sprint("/n", i)))
	}
	b.leave(0)
	b.free(0, 0)
	for name, make := range makers {
		if name == "open too" {
			continue
		}
		b.refuses(api.ErrInval, make(rep("/x", 40)+"/.."), make("x"))
		b.refuses(api.ErrTooLong, make(rep("/x", 33)), make("/f/x/"+rep("x", 28)))
		b.refuses(api.ErrNone, make("/x/f/y"), make("/d/x/y"))
		b.refuses(api.ErrNotDir, make("/f/x/y"), make("/f/loop/x"))
		b.refuses(api.ErrLoop, make("/loop/x/y"))
		b.refuses(api.ErrExist, make("/f"), make("/"), make("/loop"))
		b.refuses(api.ErrTooLong, make("/deep/x"))
		b.refuses(api.ErrSpace, make("/x"))
	}
	// The text of a link is asked first of all.
	b.refuses(api.ErrInval, symlink("", rep("/x", 33)), symlink("", "/x/y"), symlink("", "/f"), symlink("\x00", "/deep/x"), symlink("", "/x"))
	b.refuses(api.ErrTooLong, symlink(rep("x", 28), ""), symlink(rep("x", 28), "/x/y"), symlink(rep("x", 28), "/f"))
}
