package vfs_test

import (
	"fmt"
	"testing"

	"bole/api"
	"bole/ram"
)

// single are the calls with one path.
func single(s string) []op {
	l := []op{create(s), mkdir(s), symlink("x", s), symlink(rep("/", 1000), s), symlink("", s), unlink(s), rmdir(s), readlink(s), stat(s), lstat(s), readdir(s), unlinkAs(s, true), unlinkAs(s, false)}
	for _, off := range []int{-1, 0, 5, 8459264, 8459265} {
		l = append(l, read(s, off, 10), write(s, off, ""), write(s, off, "x"), truncate(s, off))
	}
	l = append(l, read(s, 0, 16385), write(s, 5000, rep("x", 16384)), write(s, 0, rep("x", 16385)))
	for i := range 4 {
		l = append(l, open(s, i&1 > 0, i&2 > 0))
	}
	return l
}

// D9, P20.3: two things are wrong at once: the first one is told.
func TestOrder(t *testing.T) {
	b := wood(t, 128)
	b.does(symlink("loop", "/loop"))
	long := "/" + rep("x", 28)
	// Numbers ahead of a path's text, of the walk, of the kind, of ErrBig.
	for _, s := range []string{"", "x", long, "/gone", "/f/x", "/loop", "/", "/f"} {
		b.refuses(api.ErrInval, read(s, -1, 1), read(s, 0, -1), read(s, 0, 16385), write(s, -1, "x"), write(s, -1, ""), write(s, 8459265, pattern(16385)), truncate(s, -1))
	}
	// A text ahead of a walk, and the walk ahead of the kind, of ErrBig.
	b.refuses(api.ErrTooLong, read("/gone"+long, 0, 1), write("/f"+long, 8459265, "x"), truncate("/gone"+long, 8459265), stat("/gone"+long), readdir("/f"+long), readlink("/loop"+long))
	b.refuses(api.ErrInval, create("/gone/."), mkdir("/f/x/.."), unlink("/loop/x/."), rmdir("/gone/.."), stat("/gone/\x00"))
	b.refuses(api.ErrNone, read("/gone", 0, 1), write("/gone", 8459265, "x"), truncate("/gone", 8459265), readlink("/gone"), readdir("/gone"))
	b.refuses(api.ErrNotDir, read("/f/x", 0, 1), write("/f/x", 8459265, "x"), truncate("/f/x", 8459265), readlink("/f/x"))
	b.refuses(api.ErrLoop, read("/loop", 0, 1), write("/loop", 8459265, "x"), truncate("/loop", 8459265), readdir("/loop"))
	// A kind ahead of ErrBig.
	b.refuses(api.ErrIsDir, write("/d", 8459265, ""), write("/l", 8459265, "x"), truncate("/", 8459265))
	// ErrBig ahead of ErrSpace, which no block that is free would be asked for.
	b.refuses(api.ErrBig, write("/f", 8459264-16383, pattern(16384)))
	b.refuses(api.ErrSpace, write("/f", 8459264-16384, pattern(16384)))

	// A link's text ahead of the name's, and that ahead of its walk.
	b.refuses(api.ErrInval, symlink("", "x"), symlink("", long), symlink("\x00", "/gone/x"), symlink("", "/f"), symlink("x", "x"))
	b.refuses(api.ErrTooLong, symlink(rep("x", 28), ""), symlink(rep("x", 28), "/gone/x"), symlink(rep("x", 28), "/f"), symlink(rep("x", 28), "/.."), symlink("x", "/gone"+long))
	b.refuses(api.ErrNone, symlink("x", "/gone/x"))
	b.refuses(api.ErrExist, symlink("x", "/f"), symlink("x", "/"))

	// The first path's text ahead of the second one's, and that ahead of walks; the first walk whole ahead of the second.
	b.refuses(api.ErrInval, link("", long), rename("", long), link("/gone", "/."), rename("/gone", ""), link("/f", "x"), rename("/.", "/gone/x"))
	b.refuses(api.ErrTooLong, link(long, ""), rename(long, ""), link("/gone/x", long), rename("/f/x", long), rename(long, "/.."))
	b.refuses(api.ErrNone, link("/gone", "/f/x"), rename("/gone", "/f/x"), link("/gone", "/f"), rename("/gone", "/"), link("/d", "/gone/x"), rename("/", "/gone/x"))
	b.refuses(api.ErrNotDir, link("/f/x", "/gone/x"), rename("/f/x", "/gone/x"), link("/d", "/f/x"), rename("/", "/f/x"))
	b.refuses(api.ErrPerm, link("/d", "/f"), link("/", "/"), link("/d/..", "/d"))
	b.refuses(api.ErrExist, link("/f", "/"), link("/f", "/d"), link("/l", "/f"))
	b.refuses(api.ErrBusy, rename("/", "/"), rename("/", "/d"), rename("/d", "/"))
	b.refuses(api.ErrIsDir, rename("/f", "/d"))
	b.refuses(api.ErrNotDir, rename("/d", "/d/g"), rename("/d", "/f"))
	b.does(mkdir("/d/k"), create("/d/k/x"))
	b.refuses(api.ErrInval, rename("/d", "/d/k"), rename("/d", "/d/new"))
	b.refuses(api.ErrNotEmpty, rename("/e", "/d"), rmdir("/d"))
}

// duo is one tree twice: on a disk and in memory.
type duo struct {
	*box
	m     *ram.FS
	image []byte // to which the disk goes back; its orphan has its name there still
}

func (x *duo) does(ops ...op) {
	x.t.Helper()
	for _, p := range ops {
		x.box.does(p)
		if o := p.on(x.m); o.e != api.OK {
			x.t.Fatalf("%v: in memory %v", p, o)
		}
	}
}

// crossing is a tree with something at fault for every call: full directories, deep ones, loops, links that lead nowhere, a file with all names that it may have.
func crossing(t *testing.T) *duo {
	t.Helper()
	m, _ := ram.New(640)
	x := &duo{box: fresh(t, 640), m: m}
	x.does(mkdir("/d"), create("/f"), write("/f", 0, "oak"), link("/f", "/g"), mkdir("/e"), symlink("d", "/s"), symlink("/f", "/sf"), symlink("gone", "/dead"), symlink("loop", "/loop"))
	x.does(mkdir("/full"), mkdir("/tall"), mkdir("/tall/a"), create("/tall/a/b"), create("/d/x"), create("/o"))
	for i := range 16 {
		x.does(link("/f", fmt.Sprint("/full/", i)))
	}
	for i := range 32 {
		x.does(mkdir(rep("/deep", i+1)))
	}
	x.does(symlink(rep("deep/", 32), "/at32"), symlink(rep("deep/", 31), "/at31"), symlink(rep("deep/", 30), "/at30"))
	x.does(mkdir("/many"), create("/many/0"))
	for i := 1; i < 1000; i++ {
		x.does(link("/many/0", fmt.Sprint("/many/", i)))
	}
	return x
}

// crossings are the paths that lead to it.
func crossings() []string {
	return []string{
		"", "x", "/\x00", "/.", "/..", "/d/..", "/e/.", rep("/x", 33), "/" + rep("x", 28), "/",
		"/f", "/g/", "/f/x", "/gone", "/gone/x", "/d", "/d/x", "/d/new", "/d/../new", "/e", "/e/new", "/full", "/full/3", "/full/new",
		"/s", "/s/x", "/s/new", "/s/..", "/sf", "/sf/new", "/dead", "/dead/new", "/loop", "/loop/new",
		"/tall", "/tall/a", "/tall/a/b", "/tall/a/new", "/at30/new", "/at30/deep", "/at31/new", "/at31/deep", "/at32/new", "/deep", "/deep/deep", "/deep/new", "/many", "/many/7", "/many/new",
	}
}

// once makes a call on both, which stay as they are.
func (x *duo) once(p op) {
	x.t.Helper()
	before := steps(x.d)
	got := x.call(p)
	// A call that is refused leaves the one in memory as it is (P18.2): no copy is wanted.
	m := x.m
	if got.e == api.OK {
		m = m.Copy()
	}
	if want := p.on(m); !same(got, want) {
		x.t.Errorf("P0.9, D9: %v: %v, in memory %v", p, got, want)
	}
	if steps(x.d) == before {
		return
	}
	x.restore()
}

// restore brings the disk back.
func (x *duo) restore() {
	x.t.Helper()
	x.box = opened(x.t, x.image)
	x.box.does(unlinkAs("/o", true))
}

// order holds what comes first where a name can't be made for several reasons, whether or not there is room.
func (x *duo) order() {
	x.t.Helper()
	for e, ops := range map[api.Errno][]op{
		api.ErrPerm:    {link("/d", "/f"), link("/deep", "/at32/new")},
		api.ErrExist:   {link("/many/7", "/f"), link("/many/7", "/many/8"), create("/at31/deep"), open("/at31/deep", true, true)},
		api.ErrLinks:   {link("/many/7", "/at32/new"), link("/many/7", "/full/new"), link("/many/7", "/new")},
		api.ErrTooLong: {link("/f", "/at32/new"), create("/at32/new"), mkdir("/at32/new"), symlink("x", "/at32/new"), open("/at32/new", true, true), rename("/f", "/at32/new"), rename("/tall", "/at30/new")},
	} {
		for _, p := range ops {
			x.gives(p, p.refusal(e))
		}
	}
}

// P0.1, P0.9, D9: the first error is the same on a disk as in memory. Calls with one path: with each, where there is room, where no block is free, where no inode is, where neither is. Link and Rename: with every two, where there is room and where neither is free.
func TestCrossings(t *testing.T) {
	t.Parallel()
	for _, short := range []string{"nothing", "blocks", "inodes", "both"} {
		x := crossing(t)
		left := func() api.Room { return x.m.Do(room().c).Room }
		if short == "inodes" || short == "both" {
			for i := 0; left().FreeInodes > 2; i++ {
				x.does(create(fmt.Sprint("/n", i)))
			}
		}
		x.does(create("/fill"), create("/more"))
		if short == "blocks" || short == "both" {
			for k := 0; left().FreeBlocks > 0; k++ {
				s := "/fill"
				if left().FreeBlocks <= 2 {
					s, k = "/more", left().FreeBlocks
				}
				x.does(write(s, k*size, "x"))
			}
		}
		x.image = x.d.Image()
		unlinkAs("/o", true).on(x.m)
		x.restore()
		x.order()
		for i, s := range crossings() {
			for _, p := range single(s) {
				x.once(p)
			}
			for j, other := range crossings() {
				if short == "nothing" || short == "both" {
					x.once(link(s, other))
					x.once(renameAs(s, other, (i+j)%2 == 0))
				}
			}
		}
		for n := -1; n < 82; n++ {
			x.once(statAt(n))
			x.once(release(n))
			if n > 20 && n < 76 {
				continue
			}
			for _, off := range []int{-1, 0, 8459264, 8459265} {
				x.once(readAt(n, off, 10))
				x.once(writeAt(n, off, "x"))
				x.once(cutAt(n, off))
			}
		}
		if t.Failed() {
			return
		}
	}
}
