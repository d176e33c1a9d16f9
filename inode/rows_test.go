package inode_test

import (
	"bytes"
	"fmt"
	"maps"
	"math/rand"
	"slices"
	"testing"

	"bole/adisk"
	"bole/api"
	"bole/inode"
	"bole/txn"
)

// P11.8: taken one behind the other, out of a table of which all is free, up to its end.
func TestTakenOneBehindTheOther(t *testing.T) {
	for _, length := range []int{128, 192, 300, 4096} {
		w := on(t, length, nil)
		for n := 1; n < w.g.Count; n++ {
			w.free("P11.8", w.g.Count-n)
			x := withNumber(used[n%3], n%12, n)
			w.take("P11.8", x, n)
			w.get("P11.8", n, x)
		}
		w.free("P11.8", 0)
		w.still("P11.8", func() { w.noTake("P11.8", aFile, api.ErrSpace) })
		for n := 1; n < w.g.Count; n++ {
			w.get("P11.8", n, withNumber(used[n%3], n%12, n))
		}
	}
}

// P11.8: as far as a transaction takes them: 96 blocks of records, the first without inode 0; the next transaction goes on.
func TestTakenTillTheTransactionIsFull(t *testing.T) {
	w := on(t, 16384, nil)
	n := 1
	for _, end := range []int{768, 1536, 2048} {
		for ; n < end; n++ {
			w.take("P11.8", aLink, n)
		}
		if end < 2048 {
			w.noTake("P11.8", aLink, api.ErrTooBig)
		} else {
			w.noTake("P11.8", aLink, api.ErrSpace)
		}
		w.free("P11.8", 2048-end)
		want(t, "Commit", w.x.Commit(), api.OK)
		w.x = txn.Begin(w.d)
	}
	w.free("P11.8: behind all of them", 0)
}

// P11.8: behind Put each other number is as before, and the least free one is taken.
func TestPutLeavesTheOthers(t *testing.T) {
	w := on(t, 192, nil)
	r := rand.New(rand.NewSource(8))
	all := make([]api.Inode, w.g.Count)
	for range 400 {
		n := 1 + r.Intn(w.g.Count-1)
		all[n] = anyRecord(r)
		w.put("P11.8", n, all[n], api.OK)
		if r.Intn(3) == 0 {
			least := slices.Index(all[1:], api.Inode{}) + 1
			if least == 0 {
				w.noTake("P11.8", aDir, api.ErrSpace)
			} else {
				w.take("P11.8", aDir, least)
				all[least] = aDir
			}
		}
		free := 0
		for m := 1; m < w.g.Count; m++ {
			w.get("P11.8", m, all[m])
			if all[m] == (api.Inode{}) {
				free++
			}
		}
		w.free("P11.8", free)
	}
}

// P11.8: what was put is there for the next transaction if this one is committed, and not if it is let go.
func TestAnotherTransaction(t *testing.T) {
	w := on(t, 128, nil)
	w.take("committed", aDir, 1)
	w.put("committed", 9, aFile, api.OK)
	want(t, "Commit", w.x.Commit(), api.OK)
	w.x = txn.Begin(w.d)
	w.get("committed", 1, aDir)
	w.get("committed", 9, aFile)
	w.free("committed", 13)
	w.take("let go", aLink, 2)
	w.put("let go", 9, api.Inode{}, api.OK)
	w.x.Abort()
	w.x = txn.Begin(w.d)
	w.get("let go", 2, api.Inode{})
	w.get("let go", 9, aFile)
	w.free("let go", 13)

	mark, _ := w.x.Mark()
	w.take("back", aLink, 2)
	want(t, "Back", w.x.Back(mark), api.OK)
	w.get("back", 2, api.Inode{})
	w.written("back")
}

func pick(r *rand.Rand, l ...int) int { return l[r.Intn(len(l))] }

// anyRecord is a record that may be, one in four a free one.
func anyRecord(r *rand.Rand) api.Inode {
	x := api.Inode{Kind: r.Intn(4)}
	switch x.Kind {
	case 0:
		return x
	case 1:
		x.Links, x.Size = pick(r, 0, 1, 1000, r.Intn(1001)), pick(r, 0, 8459264, r.Intn(8459265))
	case 2:
		x.Links, x.Size = pick(r, 2, 65535, 2+r.Intn(65534)), 512*pick(r, 0, 16522, r.Intn(16523))
	case 3:
		x.Links, x.Size = pick(r, 1, 1000, 1+r.Intn(1000)), pick(r, 1, 1024, 1+r.Intn(1024))
	}
	for at := range 12 {
		x = withNumber(x, at, pick(r, 0, most, r.Intn(most+1)))
	}
	return x
}

// plain is a transaction and its disk, with the calls as the chapter's words say them.
type plain struct {
	g          api.Geo
	image      []byte
	put        map[int][]byte
	down, over bool
}

func (p *plain) read(i int) ([]byte, api.Errno) {
	if p.over {
		return nil, api.ErrOver
	}
	if b, is := p.put[i]; is {
		return b, api.OK
	}
	if p.down {
		return nil, api.ErrDown
	}
	return p.image[i*size : (i+1)*size], api.OK
}

func (p *plain) get(n int) (api.Inode, api.Errno) {
	if n < 1 || n >= p.g.Count {
		return api.Inode{}, api.ErrInode
	}
	b, e := p.read(p.g.Inodes + n/8)
	if e != api.OK {
		return api.Inode{}, e
	}
	x, ok := plainRecord(b[n%8*64 : n%8*64+64])
	if !ok {
		return api.Inode{}, api.ErrRecord
	}
	return x, api.OK
}

// store is Put; may tells whether x is a record that may be.
func (p *plain) store(n int, x api.Inode, may bool) api.Errno {
	if n < 1 || n >= p.g.Count {
		return api.ErrInode
	}
	if !may {
		return api.ErrRecord
	}
	i := p.g.Inodes + n/8
	b, e := p.read(i)
	if e != api.OK {
		return e
	}
	if _, is := p.put[i]; !is && len(p.put) == 96 {
		return api.ErrTooBig
	}
	b = bytes.Clone(b)
	copy(b[n%8*64:], plainBytes(x))
	p.put[i] = b
	return api.OK
}

func (p *plain) take(x api.Inode, may bool) (int, api.Errno) {
	if !may || x.Kind == 0 {
		return 0, api.ErrRecord
	}
	for n := 1; n < p.g.Count; n++ {
		y, e := p.get(n)
		if e != api.OK {
			return 0, e
		}
		if y.Kind != 0 {
			continue
		}
		if e := p.store(n, x, true); e != api.OK {
			return 0, e
		}
		return n, api.OK
	}
	return 0, api.ErrSpace
}

func (p *plain) free() (int, api.Errno) {
	count := 0
	for n := 1; n < p.g.Count; n++ {
		x, e := p.get(n)
		if e != api.OK {
			return 0, e
		}
		if x.Kind == 0 {
			count++
		}
	}
	return count, api.OK
}

// pair is a transaction beside a plain one, and what came out of the calls so far.
type pair struct {
	t     *testing.T
	r     *rand.Rand
	d     *adisk.Disk
	x     *txn.Txn
	p     *plain
	count map[string]int
}

func (a *pair) same(what, got, want string, e api.Errno) {
	a.t.Helper()
	a.count[fmt.Sprint(what, " ", e)]++
	if got != want {
		a.t.Fatalf("%s: %s, want %s", what, got, want)
	}
}

func (a *pair) number() int {
	if a.r.Intn(10) == 0 {
		return pick(a.r, outside(a.p.g)...)
	}
	return 1 + a.r.Intn(a.p.g.Count-1)
}

// record is any one, with whether it may be.
func (a *pair) record() (api.Inode, bool) {
	if a.r.Intn(8) == 0 {
		return odd[a.r.Intn(len(odd))], false
	}
	return anyRecord(a.r), true
}

func (a *pair) get() {
	n := a.number()
	x, e := inode.Get(a.x, a.p.g, n)
	y, f := a.p.get(n)
	a.same("Get", fmt.Sprint(n, x, e), fmt.Sprint(n, y, f), f)
}

func (a *pair) store() {
	n := a.number()
	x, may := a.record()
	e, f := inode.Put(a.x, a.p.g, n, x), a.p.store(n, x, may)
	a.same("Put", fmt.Sprint(n, x, e), fmt.Sprint(n, x, f), f)
}

func (a *pair) take() {
	x, may := a.record()
	n, e := inode.Take(a.x, a.p.g, x)
	m, f := a.p.take(x, may)
	a.same("Take", fmt.Sprint(x, n, e), fmt.Sprint(x, m, f), f)
}

func (a *pair) free() {
	n, e := inode.Free(a.x, a.p.g)
	m, f := a.p.free()
	a.same("Free", fmt.Sprint(n, e), fmt.Sprint(m, f), f)
}

// beside puts blocks beside the calls, of the data and, one in so many, of the table.
func (a *pair) beside(times, perTable int) {
	g := a.p.g
	for range times {
		i, b := g.Data+a.r.Intn(g.Blocks-g.Data), bytes.Repeat([]byte{byte(a.r.Intn(256))}, size)
		if a.r.Intn(perTable) == 0 {
			i, b = g.Inodes+a.r.Intn(g.Data-g.Inodes), anyTable(a.r, 1)
		}
		if a.x.Write(i, b) == api.OK {
			a.p.put[i] = b
		}
	}
}

// anyTable is so many blocks of a table, in which few inodes are free, most or all; seldom with a byte that makes a record none.
func anyTable(r *rand.Rand, blocks int) []byte {
	var b []byte
	part := pick(r, 0, 20, 95, 100, 100)
	for range blocks * 8 {
		if r.Intn(100) < part {
			b = append(b, plainBytes(used[r.Intn(3)])...)
		} else {
			b = append(b, make([]byte, 64)...)
		}
	}
	if r.Intn(4) == 0 {
		b[r.Intn(len(b))] = byte(r.Intn(256))
	}
	return b
}

// hold holds what is put against the plain one's.
func (a *pair) hold() {
	a.t.Helper()
	if l := a.x.Written(); !slices.Equal(l, slices.Sorted(maps.Keys(a.p.put))) {
		a.t.Fatalf("Written: %v", l)
	}
	for i, b := range a.p.put {
		if seen, e := a.x.Read(i); e != api.OK || !bytes.Equal(seen, b) {
			a.t.Fatalf("Read(%d): %d, or other bytes", i, e)
		}
	}
}

// ends may cut the power, and may end the transaction.
func (a *pair) ends() {
	switch a.r.Intn(8) {
	case 0, 1:
		a.d.Crash(nil)
		a.p.down = true
	case 2:
		a.x.Abort()
		a.p.over, a.p.put = true, map[int][]byte{}
	}
}

// P11.3 to P11.8: rows of any calls, with any blocks put beside them, on any table.
func TestRowsOfCalls(t *testing.T) {
	count := map[string]int{}
	for seed := range int64(400) {
		r := rand.New(rand.NewSource(seed))
		g := laid(t, pick(r, 128, 192, 300, 700))
		b := make([]byte, g.Blocks*size)
		r.Read(b)
		copy(b[g.Inodes*size:g.Data*size], anyTable(r, g.Data-g.Inodes))
		d, e := adisk.Open(b)
		want(t, "Open", e, api.OK)
		a := &pair{t, r, d, txn.Begin(d), &plain{g: g, image: b, put: map[int][]byte{}}, count}
		if r.Intn(3) == 0 {
			a.beside(500, 300)
		}
		for range 60 {
			switch r.Intn(20) {
			case 0:
				a.ends()
			case 1:
				a.beside(1+r.Intn(20), 10)
			case 2, 3, 4, 5:
				a.get()
			case 6, 7:
				a.free()
			case 8, 9, 10, 11, 12:
				a.store()
			default:
				a.take()
			}
			a.hold()
		}
		if writes, flushes := d.Steps(); writes != 0 || flushes != 0 {
			t.Fatalf("P11.7: %d, %d steps", writes, flushes)
		}
	}
	for _, what := range []string{"Get E0", "Get E30", "Get E61", "Get E110", "Get E111", "Put E0", "Put E30", "Put E60", "Put E61", "Put E110", "Put E111", "Take E0", "Take E30", "Take E60", "Take E61", "Take E90", "Take E111", "Free E0", "Free E30", "Free E61", "Free E111"} {
		if count[what] < 20 {
			t.Errorf("%s came out %d times only", what, count[what])
		}
	}
}
