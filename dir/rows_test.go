package dir_test

import (
	"bytes"
	"cmp"
	"fmt"
	"math/rand"
	"slices"
	"testing"

	"bole/adisk"
	"bole/api"
	"bole/bmap"
	"bole/dir"
	"bole/inode"
	"bole/txn"
)

// plain is the six calls as the chapter's words say them, over the layers below.
type plain struct {
	x *txn.Txn
	g api.Geo
}

func plainName(s string) bool {
	return len(s) >= 1 && len(s) <= 27 && s != "." && s != ".." && !bytes.ContainsAny([]byte(s), "/\x00")
}

func (p plain) open(n int) (api.Inode, api.Errno) {
	x, e := inode.Get(p.x, p.g, n)
	switch {
	case e != api.OK:
		return x, e
	case x.Kind == 0:
		return x, api.ErrInode
	case x.Kind != 2:
		return x, api.ErrNotDir
	}
	return x, api.OK
}

// plainCells is the sixteen cells of a block, the free ones with them.
func plainCells(b []byte) ([]api.Entry, api.Errno) {
	var l []api.Entry
	for k := range 16 {
		c := b[32*k : 32*k+32]
		has := int(c[0]) + 256*int(c[1]) + 65536*int(c[2]) + 16777216*int(c[3])
		length := int(c[4])
		switch {
		case has == 0 && !bytes.Equal(c, make([]byte, 32)):
			return nil, api.ErrCell
		case has == 0:
			l = append(l, cell(k, "", 0))
			continue
		case length > 27 || !plainName(string(c[5:5+length])) || !bytes.Equal(c[5+length:], make([]byte, 27-length)):
			return nil, api.ErrCell
		}
		l = append(l, cell(k, string(c[5:5+length]), has))
	}
	return l, api.OK
}

// read is the cells of a directory, the free ones with them, by their places: all, or up to the block in which a name stands.
func (p plain) read(x api.Inode, till string) ([]api.Entry, api.Errno) {
	var l []api.Entry
	for k := 0; k < x.Size/512; k++ {
		i, e := bmap.Find(p.x, p.g, x, k)
		if e != api.OK {
			return nil, e
		}
		b := make([]byte, 512)
		if i != 0 {
			if b, e = p.x.Read(i); e != api.OK {
				return nil, e
			}
		}
		cells, e := plainCells(b)
		if e != api.OK {
			return nil, e
		}
		stop := false
		for _, c := range cells {
			stop = stop || till != "" && c.Name == till
			c.Place += 16 * k
			l = append(l, c)
		}
		if stop {
			break
		}
	}
	return l, api.OK
}

// lookup is the name's cell with the lowest place, and the record.
func (p plain) lookup(n int, name string) (api.Entry, api.Inode, api.Errno) {
	x, e := p.open(n)
	if e != api.OK {
		return api.Entry{}, x, e
	}
	l, e := p.read(x, name)
	if e != api.OK {
		return api.Entry{}, x, e
	}
	for _, c := range l {
		if c.Inode != 0 && c.Name == name {
			return c, x, api.OK
		}
	}
	return api.Entry{}, x, api.ErrNone
}

func (p plain) find(n int, name string) (int, api.Errno) {
	if !plainName(name) {
		return 0, api.ErrInval
	}
	c, _, e := p.lookup(n, name)
	return c.Inode, e
}

// set puts the block with a cell's bytes.
func (p plain) set(i int, c api.Entry) api.Errno {
	b, e := p.x.Read(i)
	if e != api.OK {
		return e
	}
	c.Place %= 16
	return p.x.Write(i, with(b, c))
}

func (p plain) add(n int, name string, has int) (e api.Errno) {
	if !plainName(name) {
		return api.ErrInval
	}
	if has < 1 || has > p.g.Count-1 {
		return api.ErrInode
	}
	x, e := p.open(n)
	if e != api.OK {
		return e
	}
	l, e := p.read(x, "")
	if e != api.OK {
		return e
	}
	low := -1
	for _, c := range l {
		if c.Inode != 0 && c.Name == name {
			return api.ErrExist
		}
		if c.Inode == 0 && low < 0 {
			low = c.Place
		}
	}
	grows := low < 0
	if grows {
		low = 16 * (x.Size / 512)
	}
	mark, _ := p.x.Mark()
	defer func() {
		if e != api.OK {
			p.x.Back(mark)
		}
	}()
	y, i, e := bmap.Add(p.x, p.g, x, low/16)
	if e != api.OK {
		return e
	}
	if e := p.set(i, cell(low, name, has)); e != api.OK {
		return e
	}
	if grows {
		y.Size += 512
	}
	if grows || y != x {
		return inode.Put(p.x, p.g, n, y)
	}
	return api.OK
}

// swap puts the name's cell with another inode, or free (0).
func (p plain) swap(n int, name string, has int) (int, api.Errno) {
	c, x, e := p.lookup(n, name)
	if e != api.OK {
		return 0, e
	}
	i, e := bmap.Find(p.x, p.g, x, c.Place/16)
	if e != api.OK {
		return 0, e
	}
	if e := p.set(i, cell(c.Place, name, has)); e != api.OK {
		return 0, e
	}
	return c.Inode, api.OK
}

func (p plain) remove(n int, name string) (int, api.Errno) {
	if !plainName(name) {
		return 0, api.ErrInval
	}
	return p.swap(n, name, 0)
}

func (p plain) replace(n int, name string, has int) (int, api.Errno) {
	if !plainName(name) {
		return 0, api.ErrInval
	}
	if has < 1 || has > p.g.Count-1 {
		return 0, api.ErrInode
	}
	return p.swap(n, name, has)
}

func (p plain) list(n int) ([]api.Entry, api.Errno) {
	x, e := p.open(n)
	if e != api.OK {
		return nil, e
	}
	l, e := p.read(x, "")
	l = slices.DeleteFunc(l, func(c api.Entry) bool { return c.Inode == 0 })
	slices.SortFunc(l, func(a, b api.Entry) int {
		return cmp.Or(bytes.Compare([]byte(a.Name), []byte(b.Name)), a.Place-b.Place)
	})
	return l, e
}

// pair is a transaction beside a plain one on a disk that is the same, and what came out of the calls so far.
type pair struct {
	t     *testing.T
	r     *rand.Rand
	g     api.Geo
	d     [2]*adisk.Disk
	x     [2]*txn.Txn
	wrong bool // whether the disk goes wrong
	count map[string]int
}

func (a *pair) plain() plain { return plain{a.x[1], a.g} }

func (a *pair) same(what, got, want string, e api.Errno) {
	a.t.Helper()
	a.count[fmt.Sprint(what, " ", e)]++
	if got != want {
		a.t.Fatalf("%s: %.300s, want %.300s", what, got, want)
	}
}

// dir is any directory's number, or none's.
func (a *pair) dir() int {
	if a.r.Intn(40) == 0 {
		return []int{-1, 0, 3, 4, 5, a.g.Count, a.g.Count + 1, int(a.r.Uint64())}[a.r.Intn(8)]
	}
	return []int{1, 2, 7, 9}[a.r.Intn(4)]
}

// name is one that is there, one of a few others, or none.
func (a *pair) name(n int) string {
	switch a.r.Intn(30) {
	case 0:
		return noNames()[a.r.Intn(len(noNames()))]
	case 1, 2, 3:
		return names()[a.r.Intn(len(names()))]
	}
	if l, e := a.plain().list(n); e == api.OK && len(l) > 0 && a.r.Intn(2) == 0 {
		return l[a.r.Intn(len(l))].Name
	}
	return name(a.r.Intn(400))
}

func (a *pair) inode() int {
	if a.r.Intn(30) == 0 {
		return noInodes(a.g)[a.r.Intn(len(noInodes(a.g)))]
	}
	return 1 + a.r.Intn(a.g.Count-1)
}

func (a *pair) find() {
	n := a.dir()
	s := a.name(n)
	i, e := dir.Find(a.x[0], a.g, n, s)
	k, f := a.plain().find(n, s)
	a.same("Find", fmt.Sprint(n, s, i, e), fmt.Sprint(n, s, k, f), f)
}

func (a *pair) add() {
	n := a.dir()
	s, has := a.name(n), a.inode()
	e, f := dir.Add(a.x[0], a.g, n, s, has), a.plain().add(n, s, has)
	a.same("Add", fmt.Sprint(n, s, has, e), fmt.Sprint(n, s, has, f), f)
}

func (a *pair) remove() {
	n := a.dir()
	s := a.name(n)
	i, e := dir.Remove(a.x[0], a.g, n, s)
	k, f := a.plain().remove(n, s)
	a.same("Remove", fmt.Sprint(n, s, i, e), fmt.Sprint(n, s, k, f), f)
}

func (a *pair) replace() {
	n := a.dir()
	s, has := a.name(n), a.inode()
	i, e := dir.Replace(a.x[0], a.g, n, s, has)
	k, f := a.plain().replace(n, s, has)
	a.same("Replace", fmt.Sprint(n, s, has, i, e), fmt.Sprint(n, s, has, k, f), f)
}

func (a *pair) list() {
	n := a.dir()
	l, e := dir.List(a.x[0], a.g, n)
	m, f := a.plain().list(n)
	if !slices.Equal(l, m) {
		a.t.Fatalf("List(%d): %s, want %s", n, short(l), short(m))
	}
	a.same("List", fmt.Sprint(n, len(l), e), fmt.Sprint(n, len(m), f), f)
	k, e := dir.Size(a.x[0], a.g, n)
	a.same("Size", fmt.Sprint(n, k, e), fmt.Sprint(n, len(m), f), f)
}

// hold holds what is put against the plain one's.
func (a *pair) hold() {
	a.t.Helper()
	nums := a.x[1].Written()
	if l := a.x[0].Written(); !slices.Equal(l, nums) {
		a.t.Fatalf("Written: %v, want %v", l, nums)
	}
	for _, i := range nums {
		b, e := a.x[0].Read(i)
		c, f := a.x[1].Read(i)
		if !bytes.Equal(b, c) || e != api.OK || f != api.OK {
			a.t.Fatalf("block %d has other bytes, or %d, %d", i, e, f)
		}
	}
}

// lay puts a block on both sides.
func (a *pair) lay(i int, b []byte) {
	if e, f := a.x[0].Write(i, b), a.x[1].Write(i, b); e != f {
		a.t.Fatalf("a Write of block %d: %d, %d", i, e, f)
	}
}

// number is any number about a disk's blocks, most of them data blocks'.
func (a *pair) number() int {
	if a.r.Intn(12) == 0 {
		return []int{1, 98, a.g.Data - 1, a.g.Blocks, 1<<32 - 1}[a.r.Intn(5)]
	}
	return a.g.Data + a.r.Intn(a.g.Blocks-a.g.Data)
}

// spoil writes something beside the calls: other bits, other numbers or another size into a record, bytes that are no record, a cell of any name, one that can't be, a number into what may be a table.
func (a *pair) spoil() {
	switch a.r.Intn(6) {
	case 0:
		a.turn(98, func(b []byte) {
			k := a.number() % 4096
			b[k/8] ^= 1 << (k % 8)
		})
	case 1, 2:
		n := []int{1, 2, 7, 9}[a.r.Intn(4)]
		a.turn(a.g.Inodes+n/8, func(b []byte) { a.spoilRecord(b[n%8*64 : n%8*64+64]) })
	case 3:
		a.turn(a.g.Data+a.r.Intn(30), func(b []byte) {
			copy(b, with(b, cell(a.r.Intn(16), name(a.r.Intn(40)), 1+a.r.Intn(20))))
		})
	case 4:
		a.turn(a.g.Data+a.r.Intn(30), func(b []byte) { b[a.r.Intn(512)] ^= byte(1 << a.r.Intn(8)) })
	case 5:
		a.turn(a.g.Data+a.r.Intn(30), func(b []byte) { copy(b[4*a.r.Intn(6):], table(map[int]int{0: a.number()})[:4]) })
	}
}

func (a *pair) spoilRecord(b []byte) {
	switch a.r.Intn(8) {
	case 0:
		b[a.r.Intn(64)] ^= byte(1 << a.r.Intn(8))
	case 1, 2:
		copy(b[4:], table(map[int]int{0: 512 * []int{0, 1, 2, 9, 10, 11, 137, 138, 139, 300}[a.r.Intn(10)]})[:4])
	case 3, 4:
		copy(b[8+4*a.r.Intn(12):], []byte{0, 0, 0, 0})
	default:
		copy(b[8+4*a.r.Intn(12):], table(map[int]int{0: a.number()})[:4])
	}
}

// turn puts a block with other bytes, on both sides.
func (a *pair) turn(i int, do func(b []byte)) {
	b, e := a.x[1].Read(i)
	if e == api.OK {
		do(b)
		a.lay(i, b)
	}
}

// mend makes a directory an empty one again, so that not all of them are wrong for ever.
func (a *pair) mend() {
	n := []int{1, 2, 7, 9}[a.r.Intn(4)]
	x := aDir
	if a.r.Intn(2) == 0 {
		x = sized(aDir, 512*a.r.Intn(300))
	}
	e, f := inode.Put(a.x[0], a.g, n, x), inode.Put(a.x[1], a.g, n, x)
	if e != f {
		a.t.Fatalf("a record: %d, %d", e, f)
	}
}

// stuff puts blocks with the bytes that they have till the transaction has room for a few more.
func (a *pair) stuff() {
	for range 500 {
		i := a.g.Data + a.r.Intn(a.g.Blocks-a.g.Data)
		b, e := a.x[1].Read(i)
		if e != api.OK || len(a.x[1].Written()) > 91+a.r.Intn(5) {
			return
		}
		a.lay(i, b)
	}
}

// ends may cut the power, or end the transaction; most often it commits and begins anew.
func (a *pair) ends() {
	what := a.r.Intn(25)
	for i := range 2 {
		switch {
		case what == 0:
			a.d[i].Crash(nil)
		case what == 1:
			a.x[i].Abort()
		case a.d[i].Down() || a.x[i].Over():
		default:
			if e := a.x[i].Commit(); e != api.OK {
				a.t.Fatalf("Commit: %d", e)
			}
			a.x[i] = txn.Begin(a.d[i])
		}
	}
}

func (a *pair) step() {
	switch k := a.r.Intn(100); {
	case k < 50:
		a.add()
	case k < 65:
		a.remove()
	case k < 73:
		a.replace()
	case k < 83:
		a.find()
	case k < 88:
		a.list()
	case k < 92:
		a.ends()
	case k < 93:
		a.stuff()
	case k < 94 && a.wrong:
		a.mend()
	case a.wrong:
		a.spoil()
	}
	a.hold()
}

// anyDisk is a disk of one of some lengths, with any of its blocks taken; the directory 1 is empty, 2 has many names, 7 holes; 9 is full as far as it goes.
func anyDisk(t *testing.T, r *rand.Rand) *world {
	n := []int{128, 140, 300, 400}[r.Intn(4)]
	taken := []int{0, 0, 50, 90}[r.Intn(4)]
	w := on(t, n, all, map[int]api.Inode{1: aDir, 2: aDir, 3: aFile, 4: aLink, 7: aDir, 9: aDir}, nil)
	w.build(2, 9, row(0, 130+r.Intn(14))...)
	w.build(7, 150, row(16*140, 3)...)
	w.build(9, 1, row(0, 16)...)
	b := w.block(98)
	for i := w.g.Data; i < n; i++ {
		if r.Intn(100) < taken {
			b[i/8] |= 1 << (i % 8)
		}
	}
	w.lay(98, b)
	w.again()
	return w
}

// P15.1 to P15.5, W7: rows of any calls on any directories, on disks that are right and on ones that go wrong.
func TestRowsOfCalls(t *testing.T) {
	count := map[string]int{}
	for seed := range int64(240) {
		r := rand.New(rand.NewSource(seed))
		w := anyDisk(t, r)
		a := &pair{t: t, r: r, g: w.g, wrong: seed%3 > 0, count: count, d: [2]*adisk.Disk{w.d}, x: [2]*txn.Txn{w.x}}
		d, e := adisk.Open(w.d.Image())
		want(t, "a disk", e, api.OK)
		a.d[1], a.x[1] = d, txn.Begin(d)
		for range 150 {
			a.step()
		}
	}
	for _, what := range []string{
		"Find E0", "Find E1", "Find E30", "Find E61", "Find E100", "Find E110", "Find E111", "Find E140", "Find E160", "Find E161",
		"Add E0", "Add E1", "Add E30", "Add E60", "Add E61", "Add E90", "Add E100", "Add E110", "Add E111", "Add E140", "Add E150", "Add E161",
		"Remove E0", "Remove E1", "Remove E30", "Remove E60", "Remove E61", "Remove E100", "Remove E110", "Remove E111", "Remove E140", "Remove E160", "Remove E161",
		"Replace E0", "Replace E1", "Replace E30", "Replace E60", "Replace E61", "Replace E100", "Replace E110", "Replace E111", "Replace E140", "Replace E160", "Replace E161",
		"List E0", "List E30", "List E61", "List E100", "List E110", "List E111", "List E140", "List E161",
	} {
		if count[what] < 5 {
			t.Errorf("%s came out %d times only", what, count[what])
		}
	}
}
