package ram_test

import (
	"fmt"
	"testing"

	"bole/api"
	"bole/ram"
)

// trio is one tree three times: in memory, plain, and on a disk that is only read from then on.
type trio struct {
	*box
	m *plain
	k *disk
}

func (x *trio) does(ops ...op) {
	x.t.Helper()
	for _, p := range ops {
		x.box.does(p)
		if o, q := p.on(x.m), p.on(x.k); o.e != api.OK || q.e != api.OK {
			x.t.Fatalf("%v: %v, %v", p, o, q)
		}
	}
}

// crossing is a tree with something at fault for every call: full directories, deep ones, loops, links that lead nowhere, a file with all names that it may have.
func crossing(t *testing.T) *trio {
	t.Helper()
	x := &trio{fresh(t, 640), newPlain(640), mkfs(t, 640)}
	x.does(mkdir("/d"), create("/f"), write("/f", 0, "oak"), link("/f", "/g"), mkdir("/e"), symlink("d", "/s"), symlink("/f", "/sf"), symlink("gone", "/dead"), symlink("loop", "/loop"))
	x.does(mkdir("/full"), mkdir("/tall"), mkdir("/tall/a"), create("/tall/a/b"), create("/d/x"), create("/o"))
	x.does(unlinkAs("/o", true))
	for i := range 16 {
		x.does(link("/f", fmt.Sprint("/full/", i)))
	}
	for i := range 32 {
		x.does(mkdir(rep("/deep", i+1)))
	}
	x.does(symlink(rep("deep/", 32), "/at32"), symlink(rep("deep/", 31), "/at31"), symlink(rep("deep/", 30), "/at30"))
	x.does(mkdir("/many"), create("/many/0"))
	for i := 1; i < 1000; i++ {
		x.does(link("/many/0", fmt.Sprint("/many/", i)))
	}
	return x
}

// crossings are the paths that lead to it.
func crossings() []string {
	return []string{
		"", "x", "/\x00", "/.", "/..", "/d/..", "/e/.", rep("/x", 33), "/" + rep("x", 28), "/",
		"/f", "/g/", "/f/x", "/gone", "/gone/x", "/d", "/d/x", "/d/new", "/d/../new", "/e", "/e/new", "/full", "/full/3", "/full/new",
		"/s", "/s/x", "/s/new", "/s/..", "/sf", "/sf/new", "/dead", "/dead/new", "/loop", "/loop/new",
		"/tall", "/tall/a", "/tall/a/b", "/tall/a/new", "/at30/new", "/at30/deep", "/at31/new", "/at31/deep", "/at32/new", "/deep", "/deep/deep", "/deep/new", "/many", "/many/7", "/many/new",
	}
}

// once makes a call on the three, which stay as they are.
func (x *trio) once(p op) {
	x.t.Helper()
	f, things := x.Copy(), x.m.things
	got := p.on(f)
	if want := p.on(x.m); !same(got, want) {
		x.t.Errorf("P18.2: %v: %v, want %v", p, got, want)
	}
	// A call of the plain one leaves what stood there as it was.
	x.m.things = things
	if other := p.on(x.k); !same(got, other) {
		x.t.Errorf("P0.9: %v: %v, on a disk %v", p, got, other)
	}
	if got.e != api.OK && sightless(f) != sightless(x.FS) {
		x.t.Errorf("W2: %v is refused, and something has changed", p)
	}
}

// sightless is the little that can be told of a tree at once.
func sightless(f *ram.FS) string {
	var l []api.Stat
	for n := range 80 {
		st, _ := f.StatAt(n)
		l = append(l, st)
	}
	return fmt.Sprint(l, f.Do(room().c).Room)
}

// single are the calls with one path.
func single(s string) []op {
	l := []op{create(s), mkdir(s), symlink("x", s), symlink(rep("/", 1000), s), symlink("", s), unlink(s), rmdir(s), readlink(s), stat(s), lstat(s), readdir(s), unlinkAs(s, true), unlinkAs(s, false)}
	for _, off := range []int{-1, 0, 5, 8459264, 8459265} {
		l = append(l, read(s, off, 10), write(s, off, ""), write(s, off, "x"), truncate(s, off))
	}
	l = append(l, read(s, 0, 16385), write(s, 5000, rep("x", 16384)), write(s, 0, rep("x", 16385)))
	for i := range 4 {
		l = append(l, open(s, i&1 > 0, i&2 > 0))
	}
	return l
}

// P18.2, P0.9, D9: the first error is the same in all three. Calls with one path: with each, where there is room, where no block is free, where no inode is, where neither is. Link and Rename: with every two, where there is room and where neither is free, which is where the order of their errors shows.
func TestCrossings(t *testing.T) {
	for _, short := range []string{"nothing", "blocks", "inodes", "both"} {
		x := crossing(t)
		if short == "inodes" || short == "both" {
			for i := 0; x.m.left() > 0 && len(x.m.things) < x.m.g.Count-1-2; i++ {
				x.does(create(fmt.Sprint("/n", i)))
			}
		}
		x.does(create("/fill"), create("/more"))
		if short == "blocks" || short == "both" {
			for k := 0; x.m.left() > 0; k++ {
				s := "/fill"
				if x.m.left() == 1 {
					s, k = "/more", 0
				}
				x.does(write(s, k*size, "x"))
			}
		}
		x.k.dry = true
		for i, s := range crossings() {
			for _, p := range single(s) {
				x.once(p)
			}
			for j, other := range crossings() {
				if short == "nothing" || short == "both" {
					x.once(link(s, other))
					x.once(renameAs(s, other, (i+j)%2 == 0))
				}
			}
		}
		for n := -1; n < 82; n++ {
			x.once(statAt(n))
			x.once(release(n))
			if n > 20 && n < 76 {
				continue
			}
			for _, off := range []int{-1, 0, 8459264, 8459265} {
				x.once(readAt(n, off, 10))
				x.once(writeAt(n, off, "x"))
				x.once(cutAt(n, off))
			}
		}
	}
}
