package ram_test

import (
	"fmt"
	"reflect"
	"testing"

	"bole/api"
)

// wood is a tree with all that a tree has: files with holes and tables, directories with free cells, links, second names, an orphan that is held.
func wood(t *testing.T, n int) *box {
	t.Helper()
	b := fresh(t, n)
	b.does(mkdir("/d"), mkdir("/d/e"), create("/f"), write("/f", 0, "oak"), write("/f", 6000, "elm"), link("/f", "/d/g"), symlink("../f", "/d/s"), symlink(rep("/", 600), "/l"), create("/d/e/x"), create("/o"), writeAt(8, 700, "ash"))
	b.gives(unlinkAs("/o", true), out{n: 8})
	b.does(unlink("/d/e/x"))
	return b
}

// changes are calls each of which changes the tree of wood.
var changes = []op{
	create("/n"), mkdir("/n"), mkdir("/d/e/n"), symlink("x", "/n"), link("/f", "/n"), link("/l", "/n"), open("/n", true, true),
	write("/f", 0, "x"), write("/f", 1, "longer"), write("/f", 700, "x"), write("/f", 6002, "yy"), writeAt(8, 0, "x"), writeAt(8, 701, "S"),
	truncate("/f", 6002), truncate("/f", 2), truncate("/f", 0), truncate("/f", 9000), cutAt(8, 701), cutAt(8, 5),
	unlink("/f"), unlink("/d/g"), unlink("/l"), unlinkAs("/d/s", true), rmdir("/d/e"),
	rename("/f", "/n"), rename("/d", "/n"), rename("/d/e", "/e"), rename("/l", "/f"), renameAs("/l", "/d/g", true), rename("/f", "/d/s"), release(8),
}

// P18.3: another tree, the same; what is done to the one is not seen in the other.
func TestCopy(t *testing.T) {
	for _, p := range changes {
		b := wood(t, 128)
		before := sight(b)
		c := b.copy()
		if sight(c) != before {
			t.Fatalf("P18.3: a Copy is another tree:\n%s\n%s", before, sight(c))
		}
		o := p.on(b)
		after := sight(b)
		if o.e != api.OK || after == before {
			t.Fatalf("%v: %v, and nothing has changed", p, o)
		}
		if sight(c) != before {
			t.Errorf("P18.3: %v is seen in a Copy that was made ahead of it", p)
		}
		// The same on the Copy: it answers the same, and leaves the same.
		if q := p.on(c); !same(o, q) || sight(c) != after {
			t.Errorf("P18.3: %v answers %v, on the Copy %v", p, o, q)
		}
		// And the other way round.
		d := b.copy()
		for _, q := range changes {
			q.on(d)
		}
		if sight(b) != after {
			t.Errorf("P18.3: what was done to a Copy is seen in what it was made of")
		}
	}
}

// P18.3: each change on a Copy of a Copy, the three side by side.
func TestCopyOfCopy(t *testing.T) {
	for i, p := range changes {
		a := wood(t, 128)
		b := a.copy()
		c := b.copy()
		q, r := changes[(i+1)%len(changes)], changes[(i+7)%len(changes)]
		before := sight(a)
		p.on(b)
		first := sight(b)
		if sight(a) != before || sight(c) != before {
			t.Errorf("P18.3: %v on a Copy is seen in others", p)
		}
		q.on(c)
		second := sight(c)
		if sight(a) != before || sight(b) != first {
			t.Errorf("P18.3: %v on a Copy of a Copy is seen in others", q)
		}
		r.on(a)
		if sight(b) != first || sight(c) != second {
			t.Errorf("P18.3: %v is seen in its Copies", r)
		}
	}
}

// P18.3: a call that is refused on the one is undone there alone.
func TestCopyAndRefusals(t *testing.T) {
	b := wood(t, 128)
	b.leave(1)
	c := b.copy()
	before := sight(c)
	b.refuses(api.ErrSpace, write("/f", 512, rep("x", 2000)), symlink(rep("/", 513), "/n"))
	if sight(c) != before {
		t.Errorf("P18.3: what is refused is seen in a Copy")
	}
	c.does(write("/f", 512, "x"))
	b.free(1, 6)
	c.free(0, 6)
	b.does(symlink("x", "/n"))
	c.refuses(api.ErrSpace, symlink("x", "/n"))
}

// P18.3: an orphan is held in a Copy, too, and released there alone.
func TestCopyOrphans(t *testing.T) {
	b := wood(t, 128)
	c := b.copy()
	d := c.copy()
	b.does(writeAt(8, 700, "fir"), release(8))
	c.gives(readAt(8, 700, 9), out{text: "ash"})
	c.does(writeAt(8, 700, "yew"))
	d.gives(readAt(8, 700, 9), out{text: "ash"})
	d.does(release(8))
	c.gives(readAt(8, 700, 9), out{text: "yew"})
	b.next(7)
	b.makes(create("/n"), 7)
	b.makes(create("/m"), 8)
	c.makes(create("/n"), 7)
	c.makes(create("/m"), 9)
}

// P18.3: a Copy of a new one, and of the greatest.
func TestCopyOfNew(t *testing.T) {
	for _, n := range []int{128, 16384} {
		b := fresh(t, n)
		c := b.copy()
		b.does(create("/f"))
		c.lists("/")
		c.makes(mkdir("/f"), 2)
		b.is("/f", 2, 1, 1, 0, 0)
	}
}

// P18.2, D11: nothing is kept beside the tree: ways that lead to one tree lead to one file system, which answers all calls alike.
func TestNothingBeside(t *testing.T) {
	ways := [][][]op{
		{
			{create("/a"), write("/a", 0, "oak")},
			{create("/a"), write("/a", 2, "k"), write("/a", 0, "oa")},
			{create("/b"), write("/b", 0, "oak and elm"), truncate("/b", 3), rename("/b", "/a")},
			{mkdir("/a"), rmdir("/a"), create("/a"), write("/a", 0, "oak")},
			{create("/a"), create("/b"), unlinkAs("/b", true), writeAt(3, 0, "x"), release(3), write("/a", 0, "oak")},
			{create("/a"), write("/a", 100000, "x"), truncate("/a", 0), write("/a", 0, "oak")},
			{symlink("x", "/a"), stat("/a"), create("/a"), unlink("/a"), open("/a", true, true), writeAt(2, 0, "oak")},
			{create("/a"), writeAt(2, 0, "oak"), write("/a", 0, rep("x", 16384)), create("/a"), rename("/a", "/a"), write("/a", 0, ""), readdir("/"), room(), do(api.Call{})},
			{create("/a"), link("/a", "/b"), unlink("/a"), link("/b", "/a"), unlink("/b"), write("/a", 0, "oak")},
		},
		{
			{mkdir("/d"), create("/d/x"), unlink("/d/x"), symlink("d", "/s")},
			{mkdir("/d"), symlink("d", "/s"), symlink("y", "/s/y"), unlink("/d/y")},
			{mkdir("/e"), symlink("d", "/s"), create("/f"), rename("/f", "/e/f"), unlink("/e/f"), rename("/e", "/d")},
			{mkdir("/d"), symlink("q", "/q"), create("/d/x"), rename("/q", "/d/x"), unlink("/d/x"), symlink("d", "/s"), rmdir("/d/x"), mkdir("/s/x"), rename("/s", "/d/x/s"), rename("/d/x/s", "/s"), rmdir("/d/x")},
		},
	}
	for _, group := range ways {
		var first *box
		for i, ops := range group {
			b := fresh(t, 128)
			for _, p := range ops {
				p.on(b)
			}
			if first == nil {
				first = b
				continue
			}
			if sight(b) != sight(first) {
				t.Errorf("P18.2: way %d leads to another tree:\n%s\n%s", i, sight(first), sight(b))
			}
			if !reflect.DeepEqual(b.FS, first.FS) {
				t.Errorf("P18.2: way %d leaves something beside the tree", i)
			}
			for _, p := range append(changes, create("/n1"), create("/d/n2"), room()) {
				x, y := b.copy(), first.copy()
				if o, q := p.on(x), p.on(y); !same(o, q) || sight(x) != sight(y) {
					t.Errorf("P18.2: behind way %d %v answers %v, want %v", i, p, o, q)
				}
			}
		}
	}
}

// P18.2: a row of calls made and unmade leaves room and numbers as they were, again and again.
func TestNothingLeaks(t *testing.T) {
	b := wood(t, 128)
	before, was := sight(b), b.Copy()
	for i := range 50 {
		name := fmt.Sprint("/n", i)
		b.does(create(name), write(name, 5000, rep("x", 600)), link(name, "/m"), mkdir("/k"), rename("/k", "/k2"), symlink("x", "/t"))
		b.refuses(api.ErrSpace, write(name, 0, rep("x", 16384)))
		b.does(unlink("/m"), unlinkAs("/t", true), rmdir("/k2"))
		n := b.Do(lstat(name).c).Stat.Inode
		b.gives(unlinkAs(name, true), out{n: n})
		b.does(release(n))
	}
	if sight(b) != before || !reflect.DeepEqual(was, b.FS) {
		t.Errorf("P18.2: what was made and taken away has left something:\n%s\n%s", before, sight(b))
	}
}
