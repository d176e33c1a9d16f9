package acts_test

import (
	"fmt"
	"slices"
	"testing"

	"bole/api"
	"bole/txn"
)

// grove is a disk with things of all kinds, committed: full is a directory of ten blocks without a free cell, one of a block likewise; big is a file with tables; held is an orphan.
func grove(t *testing.T) *world {
	t.Helper()
	w := fresh(t, 1024)
	w.does(create("/f"), mkdir("/d"), mkdir("/d/e"), mkdir("/d/e/g"), create("/d/x"), symlink("d", "/l"), mkdir("/full"), mkdir("/one"), create("/big"), mkdir("/had"), create("/held"), create("/two"), link("/two", "/d/two"), symlink(rep("/", 1000), "/long"), link("/two", "/had/x"))
	w.does(unlink("/had/x"))
	for i := range 160 {
		w.does(link("/f", fmt.Sprint("/full/", i)))
	}
	for i := range 16 {
		w.does(link("/f", fmt.Sprint("/one/", i)))
	}
	for _, k := range []int{0, 5, 10, 11, 138, 139, 400} {
		w.writes(10, k*size, "x")
	}
	w.writes(12, 0, rep("x", 7000))
	w.gives(held(unlink("/held")), 12)
	w.again()
	return w
}

// changes are calls on it that change something, each with the number that it answers.
var changes = map[call]int{
	create("/new"): 15, create("/had/new"): 15, create("/one/new"): 15, create("/full/new"): 15, create("/d/e/g/new"): 15,
	mkdir("/new"): 15, mkdir("/had/new"): 15, mkdir("/one/new"): 15, mkdir("/full/new"): 15, mkdir("/l/e/g/new"): 15,
	symlink("x", "/new"): 15, symlink(rep("/", 1024), "/one/new"): 15, symlink(rep("/", 513), "/full/new"): 15, symlink(rep("/", 513), "/d/e/g/new"): 15,
	link("/two", "/new"): 0, link("/l", "/one/new"): 0, link("/big", "/full/new"): 0, link("/f", "/d/e/g/new"): 0,
	unlink("/two"): 0, unlink("/big"): 0, unlink("/long"): 0, held(unlink("/big")): 10, held(unlink("/l")): 0, unlink("/full/150"): 0,
	rmdir("/had"): 0, rmdir("/l/e/g"): 0,
	rename("/f", "/new"): 0, rename("/d", "/one/new"): 0, rename("/d/e", "/full/new"): 0, rename("/one/3", "/one/new"): 0, rename("/full/150", "/d/e/g/new"): 0,
	rename("/f", "/big"): 0, held(rename("/d/x", "/big")): 10, rename("/big", "/full/150"): 0, rename("/l", "/long"): 0, rename("/d/e", "/had"): 0, rename("/full", "/d/e/g"): 0, held(rename("/two", "/long")): 0,
	release(12): 0,
}

// P17.1 to P17.8, W2: a transaction with room for fewer blocks than a call puts: ErrTooBig, and it is as it was, wherever in the call that is met; with just enough it goes through. No call puts twelve blocks beside those of a text.
func TestNoRoom(t *testing.T) {
	w := grove(t)
	for c, n := range changes {
		w.x = txn.Begin(w.d)
		w.gives(c, n)
		if c.op != "Release" && !(c.op == "Unlink" && c.hold && n > 0) && !(c.op == "Rename" && n > 0) {
			w.right(12)
		}
		puts := w.x.Written()
		if len(puts) >= 12+len(c.a)/512 {
			t.Errorf("P0.6: %v puts %d blocks", c, len(puts))
		}
		if i := slices.IndexFunc(puts, func(i int) bool { return i < w.g.Bitmap || i >= 900 }); i >= 0 {
			t.Fatalf("W7: %v puts block %d", c, puts[i])
		}
		after := w.sight()
		w.x = txn.Begin(w.d)
		for room := range len(puts) {
			w.x = txn.Begin(w.d)
			w.stuff(room)
			w.refuses(api.ErrTooBig, c)
		}
		w.x = txn.Begin(w.d)
		w.stuff(len(puts))
		w.gives(c, n)
		w.x = txn.Begin(w.d)
		w.gives(c, n)
		if w.sight() != after {
			t.Errorf("W5: %v: not the same again", c)
		}
	}
}

// P17.1 to P17.8: some blocks that the call puts are put already, with the room for the others missing: their bytes are as they were.
func TestNoRoomBesideOthers(t *testing.T) {
	w := grove(t)
	for c := range changes {
		w.x = txn.Begin(w.d)
		w.does(c)
		puts := w.x.Written()
		for k := range len(puts) {
			w.x = txn.Begin(w.d)
			for i, b := range puts {
				if i != k {
					w.lay(b, w.block(b))
				}
			}
			w.stuff(0)
			w.refuses(api.ErrTooBig, c)
		}
	}
}

// W5, D11: nothing is kept between the calls: what is taken back, let go or done beside them is what they see.
func TestNothingIsKept(t *testing.T) {
	w := grove(t)
	mark, _ := w.x.Mark()
	before := w.sight()
	w.gives(create("/new"), 15)
	w.gives(held(unlink("/big")), 10)
	w.orphans(10, 12)
	w.refuses(api.ErrExist, create("/new"))
	want(t, "Back", w.x.Back(mark), api.OK)
	if w.sight() != before {
		t.Errorf("W5: behind Back something is left")
	}
	w.orphans(12)
	w.gives(create("/new"), 15)
	w.x.Abort()
	w.refuses(api.ErrOver, create("/other"))
	w.x = txn.Begin(w.d)
	w.gone("/new")
	w.gives(mkdir("/new"), 15)
	w.setRecord(15, api.Inode{Kind: 1, Links: 1})
	w.refuses(api.ErrNotDir, create("/new/x"), rmdir("/new"))
	w.gives(unlink("/new"), 0)
	w.setRecord(12, api.Inode{})
	w.refuses(api.ErrInode, release(12))
	w.gives(create("/y"), 12)
}

// W5: two disks beside each other, and two transactions.
func TestTwoDisks(t *testing.T) {
	a, b := fresh(t, 128), fresh(t, 256)
	for i := range 5 {
		a.gives(create(fmt.Sprint("/a", i)), 2+i)
		b.gives(mkdir(fmt.Sprint("/b", i)), 2+i)
		a.refuses(api.ErrNone, create("/b0/x"))
		b.refuses(api.ErrNone, rename("/a0", "/x"))
	}
	a.gives(held(unlink("/a1")), 3)
	a.orphans(3)
	b.orphans()
	b.refuses(api.ErrInval, release(3))
	a.rightCommitted(3)
	b.rightCommitted()
}

// P17.1 to P17.7: no call has a step, or asks for one: that is the commit's.
func TestNoSteps(t *testing.T) {
	w := grove(t)
	want(t, "Arm", w.d.Arm(api.Crash{At: 1}), api.OK)
	writes, flushes := w.d.Steps()
	for c, n := range changes {
		mark, _ := w.x.Mark()
		w.gives(c, n)
		want(t, "Back", w.x.Back(mark), api.OK)
	}
	if a, b := w.d.Steps(); a != writes || b != flushes || w.d.Down() {
		t.Errorf("a call had a step")
	}
	if w.x.Over() || len(w.x.Written()) != 0 {
		t.Errorf("the transaction is over, or something is put")
	}
}

// P17.10: several blocks of the bitmap: what is taken and dropped stands in the later ones.
func TestLaterBits(t *testing.T) {
	w := fresh(t, 9000)
	for i := 98; i < 100; i++ {
		b := w.block(i)
		for k := range b {
			b[k] = 0xFF
		}
		w.lay(i, b)
	}
	w.again()
	blocks, inodes := w.room()
	w.gives(mkdir("/d"), 2)
	w.gives(symlink(rep("/", 600), "/d/s"), 3)
	w.gives(create("/d/f"), 4)
	w.writes(4, 9*size, rep("x", 2*size))
	w.is(1, api.Inode{Kind: 2, Links: 3, Size: 512, Direct: [10]int{8192}})
	w.is(3, api.Inode{Kind: 3, Links: 1, Size: 600, Direct: [10]int{8193, 8194}})
	w.is(2, api.Inode{Kind: 2, Links: 2, Size: 512, Direct: [10]int{8195}})
	w.free(blocks-7, inodes-3)
	w.again()
	w.gives(rename("/d/s", "/d/f"), 0)
	w.gives(unlink("/d/f"), 0)
	w.gives(rmdir("/d"), 0)
	w.free(blocks-1, inodes)
	w.does(mkdir("/a"), rename("/a", "/b"), rmdir("/b"))
	w.free(blocks-1, inodes)
}

// P17.1: the last inode of disks of several lengths, by calls alone, and what stands there when all are gone again.
func TestAllInodes(t *testing.T) {
	for _, length := range []int{128, 191, 192, 300} {
		w := fresh(t, length)
		for n := 2; n < w.g.Count; n++ {
			w.gives([]call{create(fmt.Sprint("/", n)), mkdir(fmt.Sprint("/", n)), symlink("/", fmt.Sprint("/", n))}[n%3], n)
		}
		w.refuses(api.ErrSpace, create("/x"), mkdir("/x"), symlink("/", "/x"))
		w.rightCommitted()
		for n := 2; n < w.g.Count; n++ {
			if n%3 == 1 {
				w.does(rmdir(fmt.Sprint("/", n)))
			} else {
				w.does(unlink(fmt.Sprint("/", n)))
			}
		}
		grown := (w.g.Count - 2 + 15) / 16
		w.free(w.g.Blocks-w.g.Data-grown, w.g.Count-2)
		w.cells(1)
		w.rightCommitted()
	}
}
