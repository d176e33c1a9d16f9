package acts_test

import (
	"bytes"
	"fmt"
	"math/rand"
	"slices"
	"strings"
	"testing"

	"bole/acts"
	"bole/adisk"
	"bole/api"
	"bole/bmap"
	"bole/dir"
	"bole/file"
	"bole/inode"
	"bole/path"
	"bole/txn"
	"bole/walk"
)

// plain is the calls as the chapter's words say them, one behind the other, over the layers below.
type plain struct {
	x *txn.Txn
	g api.Geo
}

func (p plain) last(chain []int) int { return chain[len(chain)-1] }

func (p plain) drop(n int, x api.Inode) api.Errno {
	if _, e := bmap.Cut(p.x, p.g, x, 0); e != api.OK {
		return e
	}
	return inode.Put(p.x, p.g, n, api.Inode{})
}

func (p plain) links(n, by int) api.Errno {
	x, e := inode.Get(p.x, p.g, n)
	if e != api.OK {
		return e
	}
	x.Links += by
	return inode.Put(p.x, p.g, n, x)
}

// lose is 'to lose a name', and the dropping of a directory.
func (p plain) lose(n int, hold bool) (int, api.Errno) {
	x, e := inode.Get(p.x, p.g, n)
	if e != api.OK {
		return 0, e
	}
	if x.Kind == 2 {
		return 0, p.drop(n, x)
	}
	left := x.Links - 1
	if left == 0 && !(x.Kind == 1 && hold) {
		return 0, p.drop(n, x)
	}
	x.Links = left
	if left == 0 {
		return n, inode.Put(p.x, p.g, n, x)
	}
	return 0, inode.Put(p.x, p.g, n, x)
}

func (p plain) new(s string, x api.Inode, text string) (int, api.Errno) {
	at, e := walk.Make(p.x, p.g, s)
	if e != api.OK {
		return 0, e
	}
	if at.Name == "" || at.Inode != 0 {
		return 0, api.ErrExist
	}
	if len(at.Chain) > 32 {
		return 0, api.ErrTooLong
	}
	n, e := inode.Take(p.x, p.g, x)
	if e != api.OK {
		return 0, e
	}
	if text != "" {
		if e := file.Write(p.x, p.g, n, 0, text); e != api.OK {
			return 0, e
		}
	}
	if e := dir.Add(p.x, p.g, p.last(at.Chain), at.Name, n); e != api.OK {
		return 0, e
	}
	if x.Kind == 2 {
		return n, p.links(p.last(at.Chain), 1)
	}
	return n, api.OK
}

func (p plain) link(old, other string) api.Errno {
	if _, e := path.Parse(old); e != api.OK {
		return e
	}
	if _, _, e := path.Make(other); e != api.OK {
		return e
	}
	from, e := walk.To(p.x, p.g, old, false)
	if e != api.OK {
		return e
	}
	to, e := walk.Make(p.x, p.g, other)
	if e != api.OK {
		return e
	}
	x, e := inode.Get(p.x, p.g, from.Inode)
	if e != api.OK {
		return e
	}
	if x.Kind == 2 {
		return api.ErrPerm
	}
	if to.Name == "" || to.Inode != 0 {
		return api.ErrExist
	}
	if x.Links == 1000 {
		return api.ErrLinks
	}
	if len(to.Chain) > 32 {
		return api.ErrTooLong
	}
	if e := dir.Add(p.x, p.g, p.last(to.Chain), to.Name, from.Inode); e != api.OK {
		return e
	}
	return p.links(from.Inode, 1)
}

func (p plain) unlink(s string, hold bool) (int, api.Errno) {
	at, e := walk.Make(p.x, p.g, s)
	if e != api.OK {
		return 0, e
	}
	if at.Inode == 1 {
		return 0, api.ErrIsDir
	}
	if at.Inode == 0 {
		return 0, api.ErrNone
	}
	x, e := inode.Get(p.x, p.g, at.Inode)
	if e != api.OK {
		return 0, e
	}
	if x.Kind == 2 {
		return 0, api.ErrIsDir
	}
	if _, e := dir.Remove(p.x, p.g, p.last(at.Chain), at.Name); e != api.OK {
		return 0, e
	}
	return p.lose(at.Inode, hold)
}

func (p plain) rmdir(s string) api.Errno {
	at, e := walk.Make(p.x, p.g, s)
	if e != api.OK {
		return e
	}
	if at.Inode == 1 {
		return api.ErrBusy
	}
	if at.Inode == 0 {
		return api.ErrNone
	}
	x, e := inode.Get(p.x, p.g, at.Inode)
	if e != api.OK {
		return e
	}
	if x.Kind != 2 {
		return api.ErrNotDir
	}
	l, e := dir.List(p.x, p.g, at.Inode)
	if e != api.OK {
		return e
	}
	if len(l) > 0 {
		return api.ErrNotEmpty
	}
	if _, e := dir.Remove(p.x, p.g, p.last(at.Chain), at.Name); e != api.OK {
		return e
	}
	if e := p.links(p.last(at.Chain), -1); e != api.OK {
		return e
	}
	return p.drop(at.Inode, x)
}

// mayMove asks what stands ahead of the changes of Rename.
func (p plain) mayMove(from, to walk.Place) (isDir, overDir bool, e api.Errno) {
	if to.Inode != 0 {
		y, e := inode.Get(p.x, p.g, to.Inode)
		if e != api.OK {
			return false, false, e
		}
		overDir = y.Kind == 2
	}
	x, e := inode.Get(p.x, p.g, from.Inode)
	if e != api.OK {
		return false, false, e
	}
	isDir = x.Kind == 2
	if overDir && !isDir {
		return false, false, api.ErrIsDir
	}
	if to.Inode != 0 && !overDir && isDir {
		return false, false, api.ErrNotDir
	}
	if isDir && slices.Contains(to.Chain, from.Inode) {
		return false, false, api.ErrInval
	}
	if overDir {
		l, e := dir.List(p.x, p.g, to.Inode)
		if e != api.OK {
			return false, false, e
		}
		if len(l) > 0 {
			return false, false, api.ErrNotEmpty
		}
	}
	if len(to.Chain) > 32 {
		return false, false, api.ErrTooLong
	}
	if isDir {
		h, e := walk.Height(p.x, p.g, from.Inode)
		if e != api.OK {
			return false, false, e
		}
		if len(to.Chain)+h > 32 {
			return false, false, api.ErrTooLong
		}
	}
	return isDir, overDir, api.OK
}

func (p plain) rename(old, other string, hold bool) (int, api.Errno) {
	if _, _, e := path.Make(old); e != api.OK {
		return 0, e
	}
	if _, _, e := path.Make(other); e != api.OK {
		return 0, e
	}
	from, e := walk.Make(p.x, p.g, old)
	if e != api.OK {
		return 0, e
	}
	if from.Inode == 0 {
		return 0, api.ErrNone
	}
	to, e := walk.Make(p.x, p.g, other)
	if e != api.OK {
		return 0, e
	}
	if from.Inode == 1 || to.Inode == 1 {
		return 0, api.ErrBusy
	}
	if from.Inode == to.Inode {
		return 0, api.OK
	}
	isDir, overDir, e := p.mayMove(from, to)
	if e != api.OK {
		return 0, e
	}
	orphan := 0
	if to.Inode != 0 {
		if _, e := dir.Replace(p.x, p.g, p.last(to.Chain), to.Name, from.Inode); e != api.OK {
			return 0, e
		}
		if _, e := dir.Remove(p.x, p.g, p.last(from.Chain), from.Name); e != api.OK {
			return 0, e
		}
		if orphan, e = p.lose(to.Inode, hold); e != api.OK {
			return 0, e
		}
	} else {
		if _, e := dir.Remove(p.x, p.g, p.last(from.Chain), from.Name); e != api.OK {
			return 0, e
		}
		if e := dir.Add(p.x, p.g, p.last(to.Chain), to.Name, from.Inode); e != api.OK {
			return 0, e
		}
	}
	if !isDir {
		return orphan, api.OK
	}
	if e := p.links(p.last(from.Chain), -1); e != api.OK {
		return 0, e
	}
	if e := p.links(p.last(to.Chain), 1); e != api.OK {
		return 0, e
	}
	if overDir {
		return orphan, p.links(p.last(to.Chain), -1)
	}
	return orphan, api.OK
}

func (p plain) release(n int) api.Errno {
	if n < 1 || n > p.g.Count-1 {
		return api.ErrInode
	}
	x, e := inode.Get(p.x, p.g, n)
	if e != api.OK {
		return e
	}
	if x.Kind == 0 {
		return api.ErrInode
	}
	if x.Kind != 1 || x.Links != 0 {
		return api.ErrInval
	}
	return p.drop(n, x)
}

func (p plain) orphans() ([]int, api.Errno) {
	var l []int
	for n := 1; n < p.g.Count; n++ {
		x, e := inode.Get(p.x, p.g, n)
		if e != api.OK {
			return nil, e
		}
		if x.Kind == 1 && x.Links == 0 {
			l = append(l, n)
		}
	}
	return l, api.OK
}

func (p plain) do(c call) (n int, e api.Errno) {
	mark, _ := p.x.Mark()
	defer func() {
		if e != api.OK {
			n = 0
			p.x.Back(mark)
		}
	}()
	switch c.op {
	case "Create":
		return p.new(c.a, api.Inode{Kind: 1, Links: 1}, "")
	case "Mkdir":
		return p.new(c.a, api.Inode{Kind: 2, Links: 2}, "")
	case "Symlink":
		if _, _, e := path.Text(c.a); e != api.OK {
			return 0, e
		}
		return p.new(c.b, api.Inode{Kind: 3, Links: 1, Size: len(c.a)}, c.a)
	case "Link":
		return 0, p.link(c.a, c.b)
	case "Unlink":
		return p.unlink(c.a, c.hold)
	case "Rmdir":
		return 0, p.rmdir(c.a)
	case "Rename":
		return p.rename(c.a, c.b, c.hold)
	}
	return 0, p.release(c.n)
}

// pair is a transaction beside a plain one on a disk that is the same, and what came out of the calls so far.
type pair struct {
	t     *testing.T
	r     *rand.Rand
	g     api.Geo
	d     [2]*adisk.Disk
	x     [2]*txn.Txn
	count map[string]int
}

const letters = "abcdef"

func (a *pair) name() string { return letters[a.r.Intn(6):][:1] }

// path has few names, some of them twice; now and then it is none.
func (a *pair) path() string {
	var l []string
	for range 1 + a.r.Intn(3) {
		l = append(l, a.name())
	}
	s := "/" + strings.Join(l, "/")
	switch a.r.Intn(60) {
	case 0:
		return "/"
	case 1:
		return s + "/.."
	case 2:
		return rep(s, 16)
	case 3:
		return s + "/" + rep("x", 28)
	case 4, 5, 6:
		return s + "/../" + a.name()
	}
	return s
}

func (a *pair) call() call {
	hold := a.r.Intn(2) == 0
	switch k := a.r.Intn(100); {
	case k < 14:
		return create(a.path())
	case k < 26:
		return mkdir(a.path())
	case k < 36:
		return symlink(rep("/", a.r.Intn(3))+strings.TrimPrefix(a.path(), "/")+rep("/", a.r.Intn(600)), a.path())
	case k < 48:
		return link(a.path(), a.path())
	case k < 60:
		return call{op: "Unlink", a: a.path(), hold: hold}
	case k < 68:
		return rmdir(a.path())
	case k < 92:
		return call{op: "Rename", a: a.path(), b: a.path(), hold: hold}
	}
	if a.r.Intn(8) == 0 {
		return release(a.r.Intn(a.g.Count+2) - 1)
	}
	return release(1 + a.r.Intn(20))
}

// hold holds both transactions against each other.
func (a *pair) hold(what string) {
	a.t.Helper()
	l, k := a.x[0].Written(), a.x[1].Written()
	if !slices.Equal(l, k) {
		a.t.Fatalf("%s: put is %v, want %v", what, l, k)
	}
	for _, i := range l {
		b, _ := a.x[0].Read(i)
		c, _ := a.x[1].Read(i)
		if !bytes.Equal(b, c) {
			a.t.Fatalf("%s: block %d has other bytes", what, i)
		}
		if i < a.g.Bitmap {
			a.t.Fatalf("W7: %s: block %d is put", what, i)
		}
	}
}

// lay puts a block on both sides.
func (a *pair) turn(i int, do func(b []byte)) {
	b, e := a.x[1].Read(i)
	if e != api.OK {
		return
	}
	do(b)
	for _, x := range a.x {
		x.Write(i, b)
	}
}

// spoil makes something wrong: a bit, a record, a number, a cell.
func (a *pair) spoil() {
	n := 1 + a.r.Intn(20)
	switch a.r.Intn(8) {
	case 0, 1:
		i := at(n, a.r.Intn(2))
		a.turn(98, func(b []byte) { b[i/8] = byte(a.r.Intn(256)) & byte(a.r.Intn(256)) })
	case 2:
		a.turn(98, func(b []byte) {
			for i := range b {
				b[i] = 0xFF
			}
		})
	case 3:
		a.turn(a.g.Inodes+n/8, func(b []byte) { b[n%8*64+a.r.Intn(3)] = byte(a.r.Intn(5)) })
	case 4:
		i := []int{5, 98, 99, 114, a.g.Data, a.g.Data + a.r.Intn(20), a.g.Blocks - 1, a.g.Blocks}[a.r.Intn(8)]
		a.turn(a.g.Inodes+n/8, func(b []byte) {
			at := b[n%8*64+8+4*a.r.Intn(12):]
			at[0], at[1] = byte(i), byte(i>>8)
		})
	case 5:
		a.turn(a.g.Data+a.r.Intn(30), func(b []byte) { copy(b[32*a.r.Intn(16):], cellBytes(has(a.name(), 1+a.r.Intn(24)))) })
	case 6:
		a.turn(a.g.Data+a.r.Intn(30), func(b []byte) { b[a.r.Intn(512)] = byte(a.r.Intn(3)) })
	case 7:
		links := []int{0, 1, 2, 3, 1000, 65535}[a.r.Intn(6)]
		a.turn(a.g.Inodes+n/8, func(b []byte) { b[n%8*64+2], b[n%8*64+3] = byte(links), byte(links>>8) })
	}
}

// stuff puts blocks with the bytes that they have till the transaction has room for a few more.
func (a *pair) stuff() {
	for i := a.g.Blocks - 1; len(a.x[1].Written()) < 90+a.r.Intn(7); i-- {
		if _, e := a.x[1].Read(i); e != api.OK {
			return
		}
		a.turn(i, func([]byte) {})
	}
}

// ends may cut the power, or end the transaction; most often it commits and begins anew.
func (a *pair) ends() {
	what := a.r.Intn(25)
	for i := range 2 {
		switch {
		case what == 0:
			a.d[i].Crash(nil)
		case what == 1:
			a.x[i].Abort()
		case a.d[i].Down() || a.x[i].Over():
		default:
			if e := a.x[i].Commit(); e != api.OK {
				a.t.Fatalf("Commit: %d", e)
			}
			a.x[i] = txn.Begin(a.d[i])
		}
	}
}

func (a *pair) step() {
	switch a.r.Intn(20) {
	case 0:
		a.ends()
		return
	case 1:
		a.spoil()
		return
	case 2:
		if a.r.Intn(3) == 0 {
			a.stuff()
		}
		return
	case 3:
		l, e := acts.Orphans(a.x[0], a.g)
		k, f := plain{a.x[1], a.g}.orphans()
		if !slices.Equal(l, k) || e != f {
			a.t.Fatalf("P17.9: %v, %d, want %v, %d", l, e, k, f)
		}
		a.count[fmt.Sprint("Orphans ", f)]++
		return
	}
	c := a.call()
	n, e := c.on(a.x[0], a.g)
	m, f := plain{a.x[1], a.g}.do(c)
	if n != m || e != f {
		a.t.Fatalf("%s: %v: %d, %d, want %d, %d", c.promise(), c, n, e, m, f)
	}
	a.count[fmt.Sprint(c.op, " ", f)]++
	a.hold(c.String())
}

// anyThing is an inode of any kind, whose names are of any inodes.
func anyThing(r *rand.Rand, n int) thing {
	links := []int{0, 1, 1, 1, 2, 2, 3, 999, 1000}[r.Intn(9)]
	switch k := r.Intn(12); {
	case k < 6:
		var l []api.Entry
		for range r.Intn(7) * r.Intn(4) {
			m := 1 + r.Intn(19)
			if r.Intn(3) > 0 && n < 19 {
				m = n + 1 + r.Intn(19-n)
			}
			if r.Intn(40) == 0 {
				m = 100 + r.Intn(60)
			}
			l = append(l, has(letters[r.Intn(6):][:1], m))
		}
		return folder(2+r.Intn(4)*r.Intn(2), l...)
	case k < 9:
		return plainFile(links, rep("x", []int{0, 1, 600, 1024}[r.Intn(4)]))
	case k < 11:
		return linkTo(max(1, links), []string{".", "..", "/", "a", "b/c", "/c", "d", "../e"}[r.Intn(8)])
	}
	return thing{}
}

// anyDisk is things of any kinds with names of one another; of some the blocks are wrong.
func anyDisk(t *testing.T, r *rand.Rand) *world {
	things := map[int]thing{}
	for n := 2; n < 20; n++ {
		o := anyThing(r, n)
		if o.x.Kind != 0 && r.Intn(12) == 0 {
			o.x.Direct[r.Intn(10)] = []int{5, 98, 114, 115, 120, 600, 1023, 1024}[r.Intn(8)]
		}
		things[n] = o
	}
	var l []api.Entry
	for _, c := range r.Perm(6)[:5] {
		l = append(l, has(letters[c:][:1], 2+r.Intn(18)))
	}
	things[1] = folder(3+r.Intn(3), l...)
	return laid(t, things)
}

// P17.1 to P17.9, W7: rows of any calls on any disks, which go wrong more and more, against the chapter's words.
func TestWrongRows(t *testing.T) {
	count := map[string]int{}
	for seed := range int64(1500) {
		r := rand.New(rand.NewSource(seed))
		w := anyDisk(t, r)
		d, e := adisk.Open(w.d.Image())
		want(t, "a disk", e, api.OK)
		a := &pair{t: t, r: r, g: w.g, count: count, d: [2]*adisk.Disk{w.d, d}, x: [2]*txn.Txn{w.x, txn.Begin(d)}}
		for range 60 {
			a.step()
		}
	}
	for _, what := range strings.Fields(
		"Create:0,1,30,60,61,90,100,110,111,130,140,150,160,161,162 " +
			"Mkdir:0,1,30,60,61,90,100,110,111,130,140,150,160,161,162 " +
			"Symlink:0,1,30,60,61,90,100,110,111,130,140,150,160,161,162 " +
			"Link:0,1,30,60,61,90,100,110,111,130,140,150,160,161,162,173,174 " +
			"Unlink:0,1,30,60,61,91,100,110,111,130,140,160,161,162,170 " +
			"Rmdir:0,1,30,60,61,91,100,110,111,130,140,160,161,162,171,172 " +
			"Rename:0,1,30,60,61,90,91,100,110,111,130,140,160,161,162,170,171,172 " +
			"Release:0,1,30,60,61,91,100,110,111 Orphans:0,30,61,111") {
		op, codes, _ := strings.Cut(what, ":")
		for _, code := range strings.Split(codes, ",") {
			if count[op+" E"+code] < 2 {
				t.Errorf("%s E%s came out %d times only", op, code, count[op+" E"+code])
			}
		}
	}
}
