package acts_test

import (
	"testing"

	"bole/api"
)

// The first three examples, one behind the other.
func examples(t *testing.T) *world {
	t.Helper()
	w := fresh(t, 128)
	w.free(27, 14)
	w.gives(create("/a"), 2)
	w.free(26, 13)
	w.refuses(api.ErrExist, create("/a"), mkdir("/a"), symlink("x", "/a"), create("/"))
	w.refuses(api.ErrNone, create("/b/c"))
	w.refuses(api.ErrNotDir, create("/a/c"))
	w.refuses(api.ErrInval, create("/."), create("a"), create(""))
	w.gives(mkdir("/d"), 3)
	w.links(1, 3)
	w.links(3, 2)

	w.gives(link("/a", "/d/e"), 0)
	w.links(2, 2)
	if x := w.record(3); x.Size != 512 || x.Direct[0] == 0 {
		t.Errorf("P17.4: /d has no block: %v", x)
	}
	w.refuses(api.ErrPerm, link("/d", "/f"), link("/", "/f"))
	w.refuses(api.ErrNone, link("/x", "/f"))
	w.refuses(api.ErrExist, link("/a", "/d"), link("/a", "/"))

	before, _ := w.room()
	w.gives(symlink("d/e", "/s"), 4)
	if after, _ := w.room(); after != before-1 || w.record(4).Size != 3 {
		t.Errorf("P17.3: /s has %d blocks and the size %d", before-after, w.record(4).Size)
	}
	w.refuses(api.ErrInval, symlink("", "/q"))
	w.gives(link("/s", "/t"), 0)
	w.links(4, 2)
	w.refuses(api.ErrNotDir, create("/s/x"))
	w.rightCommitted()
	return w
}

func TestExamples1To3(t *testing.T) { examples(t) }

func TestExamples4And5(t *testing.T) {
	w := examples(t)
	w.gives(held(unlink("/a")), 0)
	w.links(2, 1)
	w.gives(held(unlink("/d/e")), 2)
	w.rightCommitted(2)
	w.orphans(2)
	w.gives(release(2), 0)
	w.refuses(api.ErrInval, release(1))
	w.refuses(api.ErrInode, release(2), release(0), release(16))
	w.refuses(api.ErrIsDir, unlink("/d"), unlink("/"))
	w.refuses(api.ErrNone, unlink("/a"))
	w.gives(held(unlink("/s")), 0)
	w.gives(held(unlink("/t")), 0)
	w.is(4, api.Inode{})
	w.orphans()
	w.rightCommitted()

	w.refuses(api.ErrBusy, rmdir("/"))
	w.refuses(api.ErrInval, rmdir("/d/."))
	w.gives(create("/d/x"), 2)
	w.refuses(api.ErrNotEmpty, rmdir("/d"))
	w.does(unlink("/d/x"))
	before, _ := w.room()
	w.gives(rmdir("/d"), 0)
	w.links(1, 2)
	if after, _ := w.room(); after != before+1 {
		t.Errorf("P17.6: %d blocks are free, then %d", before, after)
	}
	w.rightCommitted()
}

func TestExample6(t *testing.T) {
	w := fresh(t, 128)
	w.does(mkdir("/p"), mkdir("/p/q"), create("/f"), create("/g"))
	w.again()
	w.refuses(api.ErrInval, rename("/p", "/p/q/r"))
	w.refuses(api.ErrNotEmpty, rename("/p/q", "/p"))
	w.refuses(api.ErrIsDir, rename("/f", "/p"))
	w.refuses(api.ErrNotDir, rename("/p", "/f"))
	w.refuses(api.ErrBusy, rename("/", "/x"), rename("/f", "/"))
	w.still("P17.7: onto itself", func() { w.gives(rename("/f", "/f"), 0) })
	w.gives(held(rename("/f", "/g")), 5)
	w.orphans(5)
	w.refuses(api.ErrNone, rename("/x", "/p/y/z"))
	w.gives(rename("/p/q", "/q"), 0)
	w.links(1, 4)
	w.links(2, 2)
	w.rightCommitted(5)
}

func TestExample7(t *testing.T) {
	w := fresh(t, 640)
	w.stem("/a", 32)
	w.does(symlink(rep("/a", 32), "/deep"), create("/f"), mkdir("/d"), create("/d/x"))
	w.refuses(api.ErrTooLong, create("/deep/x"))
	up := rep("/a", 31)
	w.refuses(api.ErrTooLong, rename("/d", up+"/d"))
	w.gives(rename("/f", up+"/f"), 0)
	w.rightCommitted()
}

// stem makes directories one inside the other, all of the same name.
func (w *world) stem(s string, count int) {
	w.t.Helper()
	for i := range count {
		w.does(mkdir(rep(s, i+1)))
	}
}
