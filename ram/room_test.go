package ram_test

import (
	"fmt"
	"testing"

	"bole/api"
)

// wants holds of a call that it wants just so many blocks: with one fewer it is refused, with as many it leaves none.
func wants(t *testing.T, blocks int, before []op, p op) {
	t.Helper()
	base := fresh(t, 700)
	base.does(before...)
	for left := range blocks {
		b := base.copy()
		b.leave(left)
		b.refuses(api.ErrSpace, p)
		b.free(left, b.Do(room().c).Room.FreeInodes)
	}
	b := base.copy()
	b.leave(blocks)
	b.does(p)
	if r := b.Do(room().c).Room; r.FreeBlocks != 0 {
		t.Errorf("P18.2: %v leaves %d blocks, it wants %d", p, r.FreeBlocks, blocks)
	}
}

// P18.2: how many blocks a Write wants, tables with them.
func TestWriteWants(t *testing.T) {
	file := []op{create("/f")}
	with := func(ops ...op) []op { return append(file[:1:1], ops...) }
	wants(t, 1, file, write("/f", 0, "x"))
	wants(t, 1, file, write("/f", 9*size, rep("x", size)))
	wants(t, 2, file, write("/f", 511, "xy"))
	wants(t, 2, file, write("/f", 10*size, "x"))
	wants(t, 2, file, write("/f", 137*size, "x"))
	wants(t, 3, file, write("/f", 10*size-1, "xy"))
	wants(t, 3, file, write("/f", 138*size, "x"))
	wants(t, 3, file, write("/f", 16521*size, "x"))
	wants(t, 5, file, write("/f", 138*size-1, "xy"))
	wants(t, 5, file, write("/f", 266*size-1, "xy"))
	wants(t, 33, file, write("/f", 0, rep("x", 16384)))
	wants(t, 34, file, write("/f", 1, rep("x", 16384)))
	wants(t, 34, file, write("/f", 138*size, rep("x", 16384)))
	// What is there already is not wanted again.
	wants(t, 1, with(write("/f", 10*size, "x")), write("/f", 11*size, "x"))
	wants(t, 1, with(write("/f", 138*size, "x")), write("/f", 265*size, "x"))
	wants(t, 2, with(write("/f", 138*size, "x")), write("/f", 266*size, "x"))
	wants(t, 1, with(write("/f", 0, "x"), write("/f", 1024, "x")), write("/f", 100, rep("y", 1000)))
	wants(t, 0, with(write("/f", 0, rep("x", 1024))), write("/f", 10, rep("y", 1000)))
	wants(t, 0, with(write("/f", 10, "x")), write("/f", 500, "end of it"[:9]))
	// By its number.
	wants(t, 3, file, writeAt(2, 138*size, "x"))
	wants(t, 1, with(unlinkAs("/f", true)), writeAt(2, 0, "x"))
}

// P18.2: how many blocks a new name wants, and a link's text beside it.
func TestMakeWants(t *testing.T) {
	dir := []op{mkdir("/d"), create("/f")}
	names := func(n int) []op {
		l := dir[:2:2]
		for i := range n {
			if i == 900 {
				l = append(l, create("/g"))
			}
			l = append(l, link([]string{"/f", "/g"}[i/900%2], fmt.Sprint("/d/", i)))
		}
		return l
	}
	for _, p := range []op{create("/d/x"), mkdir("/d/x"), open("/d/x", true, true), open("/d/x", true, false), link("/f", "/d/x"), rename("/f", "/d/x"), renameAs("/f", "/d/x", true)} {
		wants(t, 1, dir, p)
		wants(t, 0, names(1), p)
		wants(t, 0, names(15), p)
		wants(t, 1, names(16), p)
		wants(t, 1, names(32), p)
		wants(t, 2, names(160), p)
		wants(t, 1, names(176), p)
	}
	for _, c := range []struct{ n, blocks int }{{1, 1}, {512, 1}, {513, 2}, {1024, 2}} {
		p := symlink(rep("/", c.n), "/d/x")
		wants(t, c.blocks+1, dir, p)
		wants(t, c.blocks, names(7), p)
		wants(t, c.blocks+1, names(16), p)
		wants(t, c.blocks+2, names(160), p)
	}
}

// P18.2: the block behind which a directory's names are reached over the table of tables.
func TestDirectoryWantsTables(t *testing.T) {
	b := fresh(t, 1024)
	b.does(mkdir("/d"))
	for i := range 138 * 16 {
		if i%900 == 0 {
			b.does(create(fmt.Sprint("/f", i/900)))
		}
		b.does(link(fmt.Sprint("/f", i/900), fmt.Sprint("/d/", i)))
	}
	b.is("/d", 2, 2, 2, 138*512, 139)
	b.leave(2)
	b.refuses(api.ErrSpace, create("/d/x"), mkdir("/d/x"), link("/f2", "/d/x"), rename("/f0", "/d/x"), symlink("x", "/d/x"))
	b.does(truncate("/more", 0), unlink("/more"))
	for b.Do(room().c).Room.FreeBlocks < 3 {
		b.does(truncate("/fill", b.Do(stat("/fill").c).Stat.Size-512))
	}
	left := b.Do(room().c).Room.FreeBlocks
	b.does(rename("/f0", "/d/x"))
	b.is("/d", 2, 2, 2, 139*512, 142)
	b.free(left-3, b.Do(room().c).Room.FreeInodes)
}

// P18.2: calls that take nothing want no room.
func TestFullTree(t *testing.T) {
	b := fresh(t, 128)
	b.does(create("/f"), write("/f", 0, rep("x", 1000)), mkdir("/d"), create("/d/g"), symlink("f", "/s"), mkdir("/e"))
	b.leave(0)
	b.does(write("/f", 0, rep("y", 1024)), truncate("/f", 100000), write("/f", 1000, "z"), create("/h"), mkdir("/d/x"), link("/h", "/d/h"), rename("/h", "/d/k"), rename("/e", "/d/e"), unlink("/d/h"), stat("/s"), readdir("/"), room())
	b.free(0, 5)
	b.refuses(api.ErrSpace, write("/f", 1024, "x"), write("/f", 1023, "xy"), symlink("x", "/t"), create("/d/x/y"), mkdir("/d/e/y"))
	b.does(truncate("/f", 512))
	b.free(1, 5)
	b.does(write("/f", 1024, "x"))
	b.free(0, 5)
	b.does(unlink("/s"))
	b.free(1, 6)
	b.does(symlink("x", "/t"))
	b.refuses(api.ErrSpace, symlink("x", "/u"))
}

// P18.2: a call that wants an inode and a block where only one of them is left.
func TestInodeOrBlock(t *testing.T) {
	b := fresh(t, 128)
	b.does(mkdir("/d"))
	for i := range 11 {
		b.does(create(fmt.Sprint("/n", i)))
	}
	b.leave(5)
	b.free(5, 0)
	b.refuses(api.ErrSpace, create("/d/x"), symlink("x", "/d/x"), open("/d/x", true, true))
	b.does(link("/n0", "/d/x"), unlink("/n1"))
	b.does(write("/n2", 0, rep("x", 4*size)))
	b.free(0, 1)
	b.refuses(api.ErrSpace, symlink("x", "/y"))
	b.makes(create("/y"), 4)
}

// P18.2: all blocks of a disk can be taken, and come back.
func TestAllBlocks(t *testing.T) {
	for _, n := range []int{128, 191, 500, 4097} {
		b := fresh(t, n)
		b.leave(0)
		b.refuses(api.ErrSpace, write("/more", 12*size, "x"))
		r := b.Do(room().c).Room
		b.does(unlink("/fill"), unlink("/more"))
		b.free(r.Blocks-1, r.FreeInodes+2)
	}
}
