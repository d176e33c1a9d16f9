package vfs_test

import (
	"fmt"
	"testing"

	"bole/api"
)

// leave makes two files that take all blocks but so many.
func (b *box) leave(left int) {
	b.t.Helper()
	b.does(create("/fill"), create("/more"))
	for k, m := 0, 0; ; {
		take := b.Do(room().c).Room.FreeBlocks - left
		switch {
		case take == 0:
			return
		case take < 0:
			b.t.Fatalf("%d blocks too many are taken", -take)
		case k == 10 && take < 2, k == 138 && take < 3, k > 138 && (k-138)%128 == 0 && take < 2:
			b.does(write("/more", m*size, "x"))
			m++
		case take >= 40:
			// With all tables that they may want.
			b.does(write("/fill", k*size, rep("x", 32*size)))
			k += 32
		default:
			b.does(write("/fill", k*size, rep("x", size)))
			k++
		}
	}
}

// P20.3, D9: a disk that is full of blocks: what wants more than there are is refused whole, and what is free stays.
func TestFullOfBlocks(t *testing.T) {
	for _, left := range []int{0, 1, 2, 3} {
		b := fresh(t, 200)
		b.does(mkdir("/e"), create("/f"), mkdir("/full"), create("/a"))
		for i := range 16 {
			b.does(link("/a", fmt.Sprint("/full/", i)))
		}
		b.leave(left)
		inodes := b.Do(room().c).Room.FreeInodes
		// Each wants so many blocks.
		for _, c := range []struct {
			want int
			p    op
		}{
			{1, create("/e/n")}, {1, mkdir("/e/n")}, {2, symlink("x", "/e/n")}, {3, symlink(rep("/", 513), "/e/n")}, {2, symlink(rep("/", 513), "/n")}, {1, link("/a", "/e/n")}, {1, link("/a", "/full/n")},
			{1, rename("/a", "/e/n")}, {1, rename("/a", "/full/n")}, {1, renameAs("/a", "/full/n", true)}, {1, open("/full/n", true, true)}, {1, create("/full/n")},
			{1, write("/f", 0, "x")}, {1, write("/f", 0, rep("x", 512))}, {2, write("/f", 0, rep("x", 513))}, {2, write("/f", 511, "xy")}, {2, write("/f", 5120, "x")}, {3, write("/f", 70656, "x")},
			{3, writeAt(3, 8459263, "x")}, {4, write("/f", 5119, rep("x", 1000))},
			{0, create("/n")}, {0, mkdir("/n")}, {1, symlink("x", "/n")}, {0, rename("/full/3", "/full/n")}, {0, rename("/a", "/full/3")}, {0, write("/fill", 0, "y")}, {0, truncate("/f", 8459264)}, {0, truncate("/fill", 100)}, {0, unlink("/full/3")},
		} {
			// The refused ones first, on the one disk; the others each on one of their own.
			if c.want > left {
				b.refuses(api.ErrSpace, c.p)
				b.free(left, inodes)
				continue
			}
			x := b.copy()
			x.does(c.p)
			x.right(c.p)
			if free := x.Do(room().c).Room.FreeBlocks; c.want > 0 && free != left-c.want {
				t.Errorf("P20.3: with %d blocks free %v leaves %d, want %d", left, c.p, free, left-c.want)
			}
		}
		b.right("refused calls")
	}
}

// P20.3, D9: a disk that has no inode left.
func TestFullOfInodes(t *testing.T) {
	b := fresh(t, 128)
	b.does(mkdir("/d"))
	for i := 3; i < 16; i++ {
		b.makes(create(fmt.Sprint("/", i)), i)
	}
	blocks := b.Do(room().c).Room.FreeBlocks
	b.free(blocks, 0)
	b.refuses(api.ErrSpace, create("/d/n"), mkdir("/d/n"), symlink("x", "/d/n"), open("/d/n", true, false), open("/d/n", true, true))
	b.refuses(api.ErrExist, create("/3"), mkdir("/d"), symlink("x", "/3"))
	b.free(blocks, 0)
	b.does(link("/3", "/d/n"), write("/3", 0, "x"), rename("/4", "/d/m"))
	b.tellsNumber(unlinkAs("/7", true), 7)
	b.refuses(api.ErrSpace, create("/d/o"))
	b.does(release(7))
	b.makes(create("/d/o"), 7)
	b.does(unlink("/15"))
	b.makes(mkdir("/new"), 15)
	b.right("a disk without an inode")
}

// P20.3, D5: what a call gives back is free for it at once: rename within a full directory.
func TestGivenBack(t *testing.T) {
	b := fresh(t, 128)
	b.does(create("/a"), mkdir("/d"))
	for i := range 16 {
		b.does(link("/a", fmt.Sprint("/d/", i)))
	}
	b.leave(0)
	b.does(rename("/d/0", "/d/x"), rename("/d/x", "/d/0"))
	b.refuses(api.ErrSpace, link("/a", "/d/y"), rename("/a", "/d/y"))
	b.does(unlink("/d/3"), rename("/a", "/d/y"))
	b.right("a full directory")
}

// P20.3, P0.6, P20.2: a file that takes nearly all of the greatest disk: it is written till there is no block, cut, unlinked, released by a mount.
func TestGreatFile(t *testing.T) {
	b := fresh(t, 16384)
	b.does(create("/f"), create("/g"), create("/h"))
	off := 0
	for ; b.Do(room().c).Room.FreeBlocks > 40; off += 16384 {
		b.makes(write("/f", off, pattern(16384)), 16384)
	}
	for k := 0; b.Do(room().c).Room.FreeBlocks > 0; k++ {
		b.call(writeAt(3, k*size, "x"))
		b.call(writeAt(4, k*size, "x"))
	}
	before := b.Do(room().c)
	b.gives(write("/f", off, "x"), write("/f", off, "x").refusal(api.ErrSpace))
	b.answers(room(), before)
	b.does(write("/f", off-100, pattern(100)), truncate("/f", 8459264))
	b.right("a full disk")
	image := b.d.Image()

	b.does(truncate("/f", 70000))
	b.is("/f", 2, 1, 1, 70000, 138)
	b.right("a great file, cut")

	b = opened(t, image)
	b.does(unlink("/f"))
	b.right("a great file, unlinked")
	left := b.Do(room().c)

	b = opened(t, image)
	b.tellsNumber(unlinkAs("/f", true), 2)
	b = b.copy()
	b.answers(room(), left)
	b.right("a great file, released")
}
