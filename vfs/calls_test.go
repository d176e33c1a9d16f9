package vfs_test

import (
	"fmt"
	"testing"

	"bole/adisk"
	"bole/api"
	"bole/ram"
	"bole/vfs"
)

// wood is a file system with something of each kind: /d (directory 2) with /d/g (file 4) and /d/s (link 5 to ../f) in it, /f (file 3, 1005 bytes, a hole ahead), /l (link 6 to d), /e (directory 7 without a name), /o gone (orphan 8, 5 bytes).
func wood(t *testing.T, n int) *box {
	t.Helper()
	b := fresh(t, n)
	b.does(mkdir("/d"), create("/f"), write("/f", 1000, "hello"), create("/d/g"), symlink("../f", "/d/s"), symlink("d", "/l"), mkdir("/e"), create("/o"), write("/o", 0, "alone"))
	b.tellsNumber(unlinkAs("/o", true), 8)
	return b
}

// P20.3: each Kind, with just the fields that it looks at; all other fields of its answer are zero.
func TestKinds(t *testing.T) {
	b := wood(t, 128)
	b.answers(do(api.Call{Kind: 1, Path: "/d/new"}), api.Answer{N: 9})
	b.answers(do(api.Call{Kind: 2, Path: "/d/dir"}), api.Answer{N: 10})
	b.answers(do(api.Call{Kind: 3, Path: "/l/s", Offset: 999, Size: 4}), api.Answer{N: 4, Data: "\x00hel"})
	b.answers(do(api.Call{Kind: 4, Path: "/l/s", Offset: 1001, Data: "ipp"}), api.Answer{N: 3})
	b.answers(do(api.Call{Kind: 3, Path: "/f", Offset: 1000, Size: 100}), api.Answer{N: 5, Data: "hippo"})
	b.answers(do(api.Call{Kind: 5, Path: "/l/s", Size: 1002}), api.Answer{})
	b.is("/f", 3, 1, 1, 1002, 1)
	b.answers(do(api.Call{Kind: 6, Path: "/d/new"}), api.Answer{})
	b.answers(do(api.Call{Kind: 7, Path: "/d/dir"}), api.Answer{})
	b.answers(do(api.Call{Kind: 8, Path: "/d/g", Other: "/l/h"}), api.Answer{})
	b.answers(do(api.Call{Kind: 9, Path: "/l", Other: "/d/l"}), api.Answer{})
	b.is("/d/l", 6, 3, 2, 1, 1)
	b.answers(do(api.Call{Kind: 10, Path: "/d/t", Other: "any text"}), api.Answer{N: 9})
	b.answers(do(api.Call{Kind: 11, Path: "/l/t"}), api.Answer{Data: "any text"})
	b.answers(do(api.Call{Kind: 12, Path: "/l"}), api.Answer{Stat: api.Stat{Inode: 2, Kind: 2, Links: 2, Size: 512, Blocks: 1}})
	b.answers(do(api.Call{Kind: 13, Path: "/l"}), api.Answer{Stat: api.Stat{Inode: 6, Kind: 3, Links: 2, Size: 1, Blocks: 1}})
	b.answers(do(api.Call{Kind: 14, Path: "/l"}), api.Answer{Names: []string{"h", "l", "s", "t"}})
	b.answers(do(api.Call{Kind: 15}), answerOf(20, 27, 6, 15))
	b.right("each Kind")
}

// P20.3: what a call takes the name of loses it: without hold nothing is left of it.
func TestNothingIsHeld(t *testing.T) {
	b := fresh(t, 128)
	b.does(create("/a"), create("/b"), write("/b", 0, "b"), create("/c"))
	b.answers(rename("/a", "/b"), api.Answer{})
	b.answers(unlink("/c"), api.Answer{})
	b.refuses(api.ErrInode, statAt(3), statAt(4))
	b.free(26, 13)
	b.right("two files without a name")
}

// P20.3: fields that a Kind doesn't look at.
func TestFieldsBeside(t *testing.T) {
	calls := []api.Call{
		{Kind: api.CallCreate, Path: "/d/n"}, {Kind: api.CallMkdir, Path: "/d/n"}, {Kind: api.CallSymlink, Path: "/d/n", Other: "t"},
		{Kind: api.CallRead, Path: "/f", Offset: 990, Size: 100}, {Kind: api.CallWrite, Path: "/f", Offset: 3, Data: "abc"}, {Kind: api.CallTruncate, Path: "/f", Size: 7},
		{Kind: api.CallUnlink, Path: "/f"}, {Kind: api.CallRmdir, Path: "/e"}, {Kind: api.CallRename, Path: "/f", Other: "/e/n"}, {Kind: api.CallLink, Path: "/f", Other: "/e/n"},
		{Kind: api.CallReadlink, Path: "/l"}, {Kind: api.CallStat, Path: "/l"}, {Kind: api.CallLstat, Path: "/l"}, {Kind: api.CallReaddir, Path: "/l"}, {Kind: api.CallRoom},
	}
	looked := map[int]string{
		api.CallCreate: "p", api.CallMkdir: "p", api.CallSymlink: "po", api.CallRead: "pfs", api.CallWrite: "pfd", api.CallTruncate: "ps", api.CallUnlink: "p", api.CallRmdir: "p",
		api.CallRename: "po", api.CallLink: "po", api.CallReadlink: "p", api.CallStat: "p", api.CallLstat: "p", api.CallReaddir: "p", api.CallRoom: "",
	}
	image := wood(t, 128).d.Image()
	for _, c := range calls {
		plain := opened(t, image)
		want := plain.call(do(c))
		for _, text := range []string{"/", "\x00", "/f", rep("x", 20000)} {
			for _, n := range []int{-1, 16385, 8459265, 1<<63 - 1} {
				odd := api.Call{Kind: c.Kind, Path: text, Other: text, Offset: n, Size: n, Data: text}
				for _, field := range looked[c.Kind] {
					switch field {
					case 'p':
						odd.Path = c.Path
					case 'o':
						odd.Other = c.Other
					case 'f':
						odd.Offset = c.Offset
					case 's':
						odd.Size = c.Size
					case 'd':
						odd.Data = c.Data
					}
				}
				b := opened(t, image)
				if got := b.call(do(odd)); !same(got, want) || sight(b) != sight(plain) {
					t.Errorf("P20.3: with other fields too %v: %v, want %v", do(odd), got, want)
				}
			}
		}
	}
}

// P20.3: Kinds that are none, ahead of all else.
func TestNoKinds(t *testing.T) {
	b := wood(t, 128)
	for _, kind := range noKinds() {
		for _, s := range []string{"", "/", "/f", "/gone/x"} {
			b.refuses(api.ErrInval, do(api.Call{Kind: kind, Path: s, Other: "/n", Offset: -1}))
		}
	}
}

// P20.3: names are told by their bytes, whatever the order in which they came, and all of them.
func TestNames(t *testing.T) {
	b := fresh(t, 128)
	b.does(mkdir("/d"), create("/f"))
	for _, name := range []string{"b", "a", "\xff", "B", "...", " ", "ab", rep("z", 27), "a b", "\x01", "10", "9"} {
		b.does(link("/f", "/d/"+name))
	}
	want := []string{"\x01", " ", "...", "10", "9", "B", "a", "a b", "ab", "b", rep("z", 27), "\xff"}
	b.lists("/d", want...)
	b.lists("/d/", want...)
	for i := range 60 {
		b.does(link("/f", fmt.Sprintf("/d/+%02d", i)))
	}
	if l := b.Do(readdir("/d").c).Names; len(l) != 72 || l[1] != " " || l[2] != "+00" || l[71] != "\xff" {
		t.Errorf("P20.3: %d names: %q", len(l), l)
	}
	b.is("/d", 2, 2, 2, 5*512, 5)
	for i := range 60 {
		b.does(unlink(fmt.Sprintf("/d/+%02d", i)))
	}
	b.lists("/d", want...)
	b.is("/d", 2, 2, 2, 5*512, 5)
}

// P20.3: Stat counts tables too, of a file of any size, a directory, a link.
func TestStat(t *testing.T) {
	b := fresh(t, 300)
	b.does(create("/f"), symlink(rep("/", 1024), "/long"), symlink(rep("/", 512), "/half"), symlink(rep("/", 513), "/more"))
	for _, c := range []struct{ at, blocks int }{{0, 1}, {4608, 2}, {5120, 4}, {70655, 5}, {70656, 8}, {70656 + 127*512, 9}, {70656 + 128*512, 11}, {8459263, 13}} {
		b.does(write("/f", c.at, "x"))
		b.is("/f", 2, 1, 1, c.at+1, c.blocks)
		b.gives(statAt(2), out{stat: api.Stat{Inode: 2, Kind: 1, Links: 1, Size: c.at + 1, Blocks: c.blocks}})
	}
	b.is("/long", 3, 3, 1, 1024, 2)
	b.is("/half", 4, 3, 1, 512, 1)
	b.is("/more", 5, 3, 1, 513, 2)
	b.does(mkdir("/d"), mkdir("/d/a"), mkdir("/d/b"), create("/d/c"))
	b.is("/d", 6, 2, 4, 512, 1)
	b.is("/", 1, 2, 3, 512, 1)
	b.answers(stat("/long"), api.Answer{Stat: api.Stat{Inode: 1, Kind: 2, Links: 3, Size: 512, Blocks: 1}})
	b.right("a file with all tables")
}

// P20.8: a call that tells something tells the same again, and has no step.
func TestTellsTheSame(t *testing.T) {
	b := wood(t, 128)
	before := steps(b.d)
	for _, s := range []string{"/", "/f", "/d", "/l", "/d/s", "/gone", "/f/x", "x"} {
		for _, p := range []op{read(s, 990, 100), readlink(s), stat(s), lstat(s), readdir(s), room(), open(s, false, false)} {
			first := b.call(p)
			if second := b.call(p); !same(first, second) {
				t.Errorf("P20.8: %v: %v, and then %v", p, first, second)
			}
		}
	}
	for n := -1; n < 18; n++ {
		for _, p := range []op{readAt(n, 0, 2000), statAt(n)} {
			first := b.call(p)
			if second := b.call(p); !same(first, second) {
				t.Errorf("P20.8: %v: %v, and then %v", p, first, second)
			}
		}
	}
	if steps(b.d) != before {
		t.Errorf("P20.8: calls that tell something have %d steps", steps(b.d)-before)
	}
}

// P0.6: the steps of calls that change something: twice the blocks that are put and two writes, four flushes.
func TestSteps(t *testing.T) {
	b := wood(t, 128)
	for _, p := range []op{
		create("/n"), mkdir("/m"), symlink("text", "/t"), link("/n", "/m/n"), write("/n", 0, "x"), write("/n", 500, rep("x", 1000)), write("/n", 0, "x"), truncate("/n", 2000), truncate("/n", 3),
		rename("/n", "/m/o"), rename("/m/o", "/m/n2"), unlink("/m/n2"), unlink("/m/n"), rmdir("/m"), open("/p", true, true), writeAt(8, 0, "y"), cutAt(8, 100), cutAt(8, 0), release(8),
		renameAs("/p", "/d/g", true), unlinkAs("/f", true),
	} {
		w, f := b.d.Steps()
		b.does(p)
		writes, flushes := b.d.Steps()
		if writes, flushes = writes-w, flushes-f; flushes != 4 || writes < 4 || writes%2 > 0 {
			t.Errorf("P0.6: %v has %d writes and %d flushes", p, writes, flushes)
		}
		b.right(p)
	}
}

// P0.6: the calls that want most: bytes that begin in the midst of a block and lie about the edges of tables; directories that grow by a table and a block.
func TestMostSteps(t *testing.T) {
	b := fresh(t, 16384)
	b.does(create("/f"), mkdir("/d"))
	most := 0
	for _, at := range []int{5120 - 8192, 70656 - 8192, 70656 + 65536 - 8192, 70656 + 2*65536 - 8192, 8459264 - 16384} {
		for _, by := range []int{0, 1, 255, 511} {
			n := steps(b.d)
			b.does(write("/f", max(0, at-by), rep("x", 16384)))
			most = max(most, steps(b.d)-n)
			b.does(truncate("/f", 0))
		}
	}
	if most < 80 {
		t.Errorf("the greatest write has %d steps", most)
	}
	b.does(create("/n"))
	for i := range 999 {
		b.does(link("/n", fmt.Sprint("/d/", i)))
	}
	b.does(mkdir("/d/dir"), symlink(rep("/", 1024), "/d/link"))
	b.right("a wide directory")
}

// D9: calls that change nothing have no step.
func TestNoSteps(t *testing.T) {
	b := wood(t, 128)
	b.does(link("/f", "/d/f"))
	b.unchanged(write("/f", 0, ""), write("/f", 1005, ""), write("/f", 8459264, ""), truncate("/f", 1005), truncate("/d/g", 0), writeAt(8, 100, ""), cutAt(8, 5), cutAt(3, 1005),
		rename("/f", "/f"), rename("/f", "/d/f"), rename("/d/f", "/f"), rename("/d", "/d"), rename("/l", "/l/../l"), renameAs("/f", "/d/f", true), renameAs("/d/g", "/l/g", true))
	b.changed(write("/f", 1000, "hello"), write("/f", 0, zeros(100)), truncate("/f", 1006), truncate("/f", 1005))
	b.right("calls that change nothing")
}

// D9: a text that is no path, or names that aren't there, have no step, whatever the call; on a disk of any length.
func TestRefusedSteps(t *testing.T) {
	for _, n := range []int{128, 4097} {
		b := wood(t, n)
		before := steps(b.d)
		for s := range noPaths {
			for _, p := range single(s) {
				b.call(p)
			}
		}
		for _, p := range single("/gone/x") {
			b.call(p)
		}
		for _, i := range noInodes(n / 64 * 8) {
			for _, p := range []op{readAt(i, 0, 1), writeAt(i, 0, "x"), cutAt(i, 0), statAt(i), release(i)} {
				b.refuses(api.ErrInode, p)
			}
		}
		if steps(b.d) != before {
			t.Errorf("D9: refused calls have %d steps", steps(b.d)-before)
		}
	}
}

// The face is that of a caller (api.Caller), as the file system in memory's is.
func TestCaller(t *testing.T) {
	m, _ := ram.New(128)
	for _, c := range []api.Caller{fresh(t, 128).FS, m} {
		if a := c.Do(create("/f").c); a.N != 2 || a.Err != api.OK {
			t.Errorf("P20.3: through api.Caller Create answers %+v", a)
		}
	}
}

// P20.2: two file systems have nothing in common.
func TestTwoDisks(t *testing.T) {
	a, b := fresh(t, 128), fresh(t, 129)
	a.does(create("/f"), write("/f", 0, "a"))
	b.lists("/")
	b.does(mkdir("/f"))
	a.holds("/f", "a")
	d, _ := adisk.New(128)
	vfs.Mkfs(d)
	mounted(t, d).lists("/")
	a.lists("/", "f")
}
