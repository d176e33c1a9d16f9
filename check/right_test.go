package check_test

import (
	"bytes"
	"fmt"
	"math/rand"
	"slices"
	"strings"
	"testing"

	"bole/acts"
	"bole/adisk"
	"bole/api"
	"bole/check"
	"bole/dir"
	"bole/file"
	"bole/geo"
	"bole/inode"
	"bole/txn"
	"bole/wal"
)

// disk is one that is called by transactions.
type disk struct {
	t *testing.T
	g api.Geo
	d *adisk.Disk
}

func opened(t *testing.T, b []byte) *disk {
	t.Helper()
	d, e := adisk.Open(b)
	if e != api.OK {
		t.Fatalf("a disk of %d bytes: %d", len(b), e)
	}
	g, e := geo.Of(d.Blocks())
	if e != api.OK {
		t.Fatalf("a disk of %d blocks: %d", d.Blocks(), e)
	}
	return &disk{t, g, d}
}

// act is something that is done in a transaction.
type act func(x *txn.Txn, g api.Geo) api.Errno

// do commits an act that isn't refused.
func (k *disk) do(a act) api.Errno {
	x := txn.Begin(k.d)
	defer x.Abort()
	if e := a(x, k.g); e != api.OK {
		return e
	}
	return x.Commit()
}

func (k *disk) orphans() []int {
	k.t.Helper()
	x := txn.Begin(k.d)
	defer x.Abort()
	l, e := acts.Orphans(x, k.g)
	if e != api.OK {
		k.t.Fatalf("Orphans: %d", e)
	}
	return l
}

// right holds that nothing is told of the disk but its orphans.
func (k *disk) right(what string) {
	k.t.Helper()
	var want []api.Finding
	for _, n := range k.orphans() {
		want = append(want, api.Finding{Kind: api.FindOrphan, Inode: n})
	}
	if l := check.Image(k.d.Image()); !slices.Equal(l, want) {
		k.t.Fatalf("P19.4: %s: %s, want %s", what, few(l), few(want))
	}
}

// recovered is what the recovery of an image leaves.
func recovered(t *testing.T, b []byte) []byte {
	t.Helper()
	d, e := adisk.Open(b)
	if e != api.OK {
		t.Fatalf("a disk of %d bytes: %d", len(b), e)
	}
	if _, e := wal.Recover(d); e != api.OK {
		t.Fatalf("Recover: %d", e)
	}
	return d.Image()
}

// cuts does an act again and again on the disk as it was, the power going at some step: of whatever lasts nothing is told but orphans, and the same as of what its recovery leaves.
func (k *disk) cuts(r *rand.Rand, before []byte, a act, what string) {
	k.t.Helper()
	for range 3 {
		c := opened(k.t, before)
		x := txn.Begin(c.d)
		if e := a(x, c.g); e != api.OK {
			k.t.Fatalf("%s: %d", what, e)
		}
		steps := 2*len(x.Written()) + 6
		keep := make([]bool, steps)
		for i := range keep {
			keep[i] = r.Intn(2) == 0
		}
		at := 1 + r.Intn(steps)
		c.d.Arm(api.Crash{At: at, Keep: keep})
		x.Commit()
		image := c.d.Image()
		l := check.Image(image)
		home := recovered(k.t, image)
		if m := check.Image(home); !slices.Equal(l, m) {
			k.t.Fatalf("P19.4: %s, cut at step %d: %s, and behind its recovery %s", what, at, few(l), few(m))
		}
		opened(k.t, home).right(fmt.Sprintf("%s, cut at step %d", what, at))
		if !check.Clean(l) {
			k.t.Fatalf("P0.5: %s, cut at step %d: %s", what, at, few(l))
		}
	}
}

// row makes rows of any calls.
type row struct {
	r     *rand.Rand
	names string
	known []string // paths that lead to something
}

func (a *row) name() string {
	if a.r.Intn(20) == 0 {
		return []string{rep("n", 27), "...", "\xff \n", "\\"}[a.r.Intn(4)]
	}
	return a.names[a.r.Intn(len(a.names)):][:1]
}

// old is, most often, the path of something that is there.
func (a *row) old() string {
	if len(a.known) > 0 && a.r.Intn(8) > 0 {
		return a.known[a.r.Intn(len(a.known))]
	}
	return "/" + a.name()
}

// young is the path of a name in a directory that is there, or, now and then, in anything.
func (a *row) young() string {
	s := a.old()
	if a.r.Intn(3) > 0 {
		s = s[:strings.LastIndexByte(s, '/')]
	}
	return s + "/" + a.name()
}

// paths are those of all names of a disk.
func (k *disk) paths() []string {
	k.t.Helper()
	x := txn.Begin(k.d)
	defer x.Abort()
	var all []string
	var down func(s string, n int)
	down = func(s string, n int) {
		l, e := dir.List(x, k.g, n)
		if e != api.OK {
			k.t.Fatalf("directory %d: %d", n, e)
		}
		for _, c := range l {
			all = append(all, s+"/"+c.Name)
			if y, _ := inode.Get(x, k.g, c.Inode); y.Kind == api.KindDir {
				down(s+"/"+c.Name, c.Inode)
			}
		}
	}
	down("", api.Root)
	return all
}

func (a *row) text() string {
	switch a.r.Intn(6) {
	case 0:
		return rep("/", 1+a.r.Intn(1024))
	case 1:
		return a.old() + rep("/.", a.r.Intn(480))
	case 2:
		return "../" + a.name()
	}
	return strings.TrimPrefix(a.young(), "/")
}

// errOf hands on the error of a call that also answers a number.
func errOf(_ int, e api.Errno) api.Errno { return e }

// call is any call of chapter 17.
func (a *row) call() (string, act) {
	s, other, text, hold := a.old(), a.young(), a.text(), a.r.Intn(2) == 0
	n := a.r.Intn(40)
	switch k := a.r.Intn(100); {
	case k < 20:
		return fmt.Sprintf("Create(%q)", other), func(x *txn.Txn, g api.Geo) api.Errno { return errOf(acts.Create(x, g, other)) }
	case k < 40:
		return fmt.Sprintf("Mkdir(%q)", other), func(x *txn.Txn, g api.Geo) api.Errno { return errOf(acts.Mkdir(x, g, other)) }
	case k < 48:
		return fmt.Sprintf("Symlink(%.20q, %q)", text, other), func(x *txn.Txn, g api.Geo) api.Errno { return errOf(acts.Symlink(x, g, text, other)) }
	case k < 58:
		return fmt.Sprintf("Link(%q, %q)", s, other), func(x *txn.Txn, g api.Geo) api.Errno { return acts.Link(x, g, s, other) }
	case k < 68:
		return fmt.Sprintf("Unlink(%q, %t)", s, hold), func(x *txn.Txn, g api.Geo) api.Errno { return errOf(acts.Unlink(x, g, s, hold)) }
	case k < 74:
		return fmt.Sprintf("Rmdir(%q)", s), func(x *txn.Txn, g api.Geo) api.Errno { return acts.Rmdir(x, g, s) }
	case k < 96:
		if k < 80 {
			other = a.old()
		}
		return fmt.Sprintf("Rename(%q, %q, %t)", s, other, hold), func(x *txn.Txn, g api.Geo) api.Errno { return errOf(acts.Rename(x, g, s, other, hold)) }
	}
	return fmt.Sprintf("Release(%d)", n), func(x *txn.Txn, g api.Geo) api.Errno { return acts.Release(x, g, n) }
}

// bytes is a write into a file, or a cut of it, where the inode is one.
func (a *row) bytes(g api.Geo) (string, act) {
	n, grown := 2+a.r.Intn(min(g.Count-2, 60)), a.r.Intn(3) > 0
	off := []int{0, 5, 511, 512, 5000, 5120, 6000, 70000, 70656, 140000}[a.r.Intn(10)]
	s := rep("x", 1+a.r.Intn(1500))
	return fmt.Sprintf("inode %d, %t, %d, %d bytes", n, grown, off, len(s)), func(x *txn.Txn, g api.Geo) api.Errno {
		y, e := inode.Get(x, g, n)
		switch {
		case e != api.OK:
			return e
		case y.Kind != api.KindFile:
			return api.ErrInode
		case grown:
			return file.Write(x, g, n, off, s)
		}
		return file.Cut(x, g, n, off)
	}
}

// any is a call of chapter 17, or bytes of a file.
func (a *row) any(g api.Geo) (string, act) {
	if a.r.Intn(5) == 0 {
		return a.bytes(g)
	}
	return a.call()
}

// grow makes a row of calls on a disk.
func (a *row) grow(k *disk, calls int, behind func(what string, before []byte, do act)) {
	for range calls {
		before := k.d.Image()
		what, do := a.any(k.g)
		if e := k.do(do); e == api.OK {
			a.known = k.paths()
			behind(what, before, do)
		}
	}
}

// stemmed makes directories one in another, the last of which lies 32 deep.
func stemmed(k *disk) {
	for i := range 32 {
		s := rep("/stem", i+1)
		if e := k.do(func(x *txn.Txn, g api.Geo) api.Errno { return errOf(acts.Mkdir(x, g, s)) }); e != api.OK {
			k.t.Fatalf("Mkdir %d deep: %d", i+1, e)
		}
	}
}

// P19.4: of a disk behind mkfs nothing is told.
func TestMkfs(t *testing.T) {
	for n := 128; n <= 16384; n += 1 + n/3 {
		s := fresh(t, n)
		s.finds(fmt.Sprint("mkfs of ", n))
		opened(t, s.b).right(fmt.Sprint("mkfs of ", n))
	}
}

// P19.4, P0.5: behind rows of any calls, each committed, nothing is told but the orphans that acts.Orphans tells; nor where the power goes in one of them.
func TestRightRows(t *testing.T) {
	done, held := 0, 0
	for seed := range int64(24) {
		r := rand.New(rand.NewSource(seed))
		k := opened(t, fresh(t, []int{128, 150, 640, 640}[r.Intn(4)]).b)
		a := &row{r: r, names: []string{"abc", "abcdefghijklmnopqrstuvwxyz"}[r.Intn(2)]}
		if k.g.Blocks == 640 && r.Intn(2) == 0 {
			stemmed(k)
		}
		a.grow(k, 120, func(what string, before []byte, do act) {
			k.right(what)
			if len(k.orphans()) > 0 {
				held++
			}
			if done++; done%4 == 0 {
				k.cuts(r, before, do, what)
			}
		})
	}
	if done < 800 || held < 200 {
		t.Errorf("%d calls were carried out, %d with orphans", done, held)
	}
}

// P19.4: every step of a commit of some blocks, with each of two ways to keep what is pending: what is told of what lasts is what is told of its recovery.
func TestEachCut(t *testing.T) {
	before := fresh(t, 128)
	before.reach(101, 2, 3)
	before.record(2, plainFile(1, 5, 110))
	before.lay(110, "hello")
	before.record(3, linkOf(1, 1, 111))
	before.lay(111, "x")
	good := 0
	for at := 1; at <= 40; at++ {
		for _, kept := range []bool{false, true} {
			c := opened(t, before.b)
			c.d.Arm(api.Crash{At: at, Keep: slices.Repeat([]bool{kept}, 40)})
			c.do(func(x *txn.Txn, g api.Geo) api.Errno { return errOf(acts.Rename(x, g, "/n3", "/n2", true)) })
			image := c.d.Image()
			l := check.Image(image)
			if m := check.Image(recovered(t, image)); !slices.Equal(l, m) {
				t.Errorf("P19.4: cut at step %d: %v, and behind its recovery %v", at, l, m)
			}
			if !check.Clean(l) {
				t.Errorf("P0.5: cut at step %d: %v", at, l)
			}
			if !bytes.Equal(image[size:2*size], make([]byte, size)) {
				good++
			}
			ofBytes(t, image).tells(fmt.Sprint("cut at step ", at), plain(image))
		}
	}
	if good < 8 {
		t.Errorf("%d images have a log that is good", good)
	}
}

// P19.4: wide directories and long files, which have tables.
func TestRightTables(t *testing.T) {
	k := opened(t, fresh(t, 1024).b)
	do := func(what string, a act) {
		t.Helper()
		if e := k.do(a); e != api.OK {
			t.Fatalf("%s: %d", what, e)
		}
	}
	do("a file", func(x *txn.Txn, g api.Geo) api.Errno { return errOf(acts.Create(x, g, "/f")) })
	for _, off := range []int{0, 5120, 70000, 70656, 70656 + 512*128, api.MaxFile - 3} {
		do("a write", func(x *txn.Txn, g api.Geo) api.Errno { return file.Write(x, g, 2, off, "abc") })
		k.right(fmt.Sprint("bytes at ", off))
	}
	for i := range 200 {
		do("a name", func(x *txn.Txn, g api.Geo) api.Errno { return acts.Link(x, g, "/f", fmt.Sprint("/n", i)) })
	}
	k.right("a wide directory")
	x := txn.Begin(k.d)
	if count, e := dir.Size(x, k.g, 1); count != 201 || e != api.OK {
		t.Errorf("the root has %d names, %d", count, e)
	}
	x.Abort()
	for i := range 200 {
		do("a name away", func(x *txn.Txn, g api.Geo) api.Errno {
			return errOf(acts.Unlink(x, g, fmt.Sprint("/n", i), false))
		})
	}
	k.right("a wide directory without names")
	for _, off := range []int{api.MaxFile - 600, 70656 + 512*128 + 1, 70656, 5121, 1, 0} {
		do("a cut", func(x *txn.Txn, g api.Geo) api.Errno { return file.Cut(x, g, 2, off) })
		k.right(fmt.Sprint("cut to ", off))
	}
	do("the file away", func(x *txn.Txn, g api.Geo) api.Errno { return errOf(acts.Unlink(x, g, "/f", true)) })
	k.right("an orphan")
	if l := k.orphans(); !slices.Equal(l, []int{2}) {
		t.Errorf("the orphans are %v", l)
	}
}
