package file_test

import (
	"bytes"
	"fmt"
	"math/big"
	"math/rand"
	"slices"
	"testing"

	"bole/adisk"
	"bole/api"
	"bole/bmap"
	"bole/file"
	"bole/inode"
	"bole/txn"
)

// plain is the four calls as the chapter's words say them, byte by byte, over the layers below.
type plain struct {
	x *txn.Txn
	g api.Geo
}

// get is what every call begins with.
func (p plain) get(n int) (api.Inode, api.Errno) {
	x, e := inode.Get(p.x, p.g, n)
	if e == api.OK && x.Kind == api.KindFree {
		return x, api.ErrInode
	}
	return x, e
}

func (p plain) read(n, off, count int) (string, api.Errno) {
	if off < 0 || count < 0 {
		return "", api.ErrInval
	}
	x, e := p.get(n)
	if e != api.OK {
		return "", e
	}
	var told, block []byte
	at := -1
	for pos := off; pos < x.Size && len(told) < count; pos++ {
		if pos/size != at {
			at = pos / size
			block = make([]byte, size)
			i, e := bmap.Find(p.x, p.g, x, at)
			if e != api.OK {
				return "", e
			}
			if i != 0 {
				if block, e = p.x.Read(i); e != api.OK {
					return "", e
				}
			}
		}
		told = append(told, block[pos%size])
	}
	return string(told), api.OK
}

// undone takes back what was put if a call is refused.
func (p plain) undone(mark int, e *api.Errno) {
	if *e != api.OK {
		p.x.Back(mark)
	}
}

func (p plain) write(n, off int, s string) (e api.Errno) {
	if off < 0 {
		return api.ErrInval
	}
	x, e := p.get(n)
	if e != api.OK {
		return e
	}
	end := new(big.Int).Add(big.NewInt(int64(off)), big.NewInt(int64(len(s))))
	if end.Cmp(big.NewInt(8459264)) > 0 {
		return api.ErrBig
	}
	if s == "" {
		return api.OK
	}
	mark, _ := p.x.Mark()
	defer p.undone(mark, &e)
	for k := range 16522 {
		if (k+1)*512 <= off || k*512 >= off+len(s) {
			continue
		}
		y, i, e := bmap.Add(p.x, p.g, x, k)
		if e != api.OK {
			return e
		}
		x = y
		b, e := p.x.Read(i)
		if e != api.OK {
			return e
		}
		for j := range b {
			if pos := 512*k + j; pos >= off && pos < off+len(s) {
				b[j] = s[pos-off]
			}
		}
		if e := p.x.Write(i, b); e != api.OK {
			return e
		}
	}
	if off+len(s) > x.Size {
		x.Size = off + len(s)
	}
	return inode.Put(p.x, p.g, n, x)
}

func (p plain) cut(n, to int) (e api.Errno) {
	if to < 0 {
		return api.ErrInval
	}
	x, e := p.get(n)
	if e != api.OK {
		return e
	}
	if to > 8459264 {
		return api.ErrBig
	}
	if to == x.Size {
		return api.OK
	}
	mark, _ := p.x.Mark()
	defer p.undone(mark, &e)
	if to < x.Size {
		k := to / 512
		if to%512 > 0 {
			k++
		}
		if x, e = bmap.Cut(p.x, p.g, x, k); e != api.OK {
			return e
		}
	}
	if to < x.Size && to%512 > 0 {
		i, e := bmap.Find(p.x, p.g, x, to/512)
		if e != api.OK {
			return e
		}
		if i != 0 {
			b, e := p.x.Read(i)
			if e != api.OK {
				return e
			}
			for j := to % 512; j < 512; j++ {
				b[j] = 0
			}
			if e := p.x.Write(i, b); e != api.OK {
				return e
			}
		}
	}
	x.Size = to
	return inode.Put(p.x, p.g, n, x)
}

func (p plain) blocks(n int) (int, api.Errno) {
	x, e := p.get(n)
	if e != api.OK {
		return 0, e
	}
	l, m, e := bmap.All(p.x, p.g, x)
	return len(l) + len(m), e
}

// pair is a transaction beside a plain one on a disk that is the same, and what came out of the calls so far.
type pair struct {
	t     *testing.T
	r     *rand.Rand
	g     api.Geo
	d     [2]*adisk.Disk
	x     [2]*txn.Txn
	wrong bool // whether the disk goes wrong
	count map[string]int
}

func (a *pair) plain() plain { return plain{a.x[1], a.g} }

func (a *pair) same(what, got, want string, e api.Errno) {
	a.t.Helper()
	a.count[fmt.Sprint(what, " ", e)]++
	if got != want {
		a.t.Fatalf("%s: %.200s, want %.200s", what, got, want)
	}
}

// inode is any inode's number, or none.
func (a *pair) inode() int {
	if a.r.Intn(60) == 0 {
		return []int{-1, 0, a.g.Count, a.g.Count + 1, int(a.r.Uint64())}[a.r.Intn(5)]
	}
	return 5 + a.r.Intn(5)
}

// place is any place of a file, most of them in the first blocks, about borders, or about the end.
func (a *pair) place(n int) int {
	switch a.r.Intn(16) {
	case 0:
		return int(a.r.Uint64())
	case 1:
		return a.r.Intn(most + 10)
	case 2:
		return most - 600 + a.r.Intn(1200)
	case 3, 4:
		return indices[a.r.Intn(len(indices))]*size + a.r.Intn(9) - 4
	case 5, 6:
		if x, e := inode.Get(a.x[1], a.g, n); e == api.OK {
			return x.Size - 3 + a.r.Intn(7)
		}
	case 7:
		return 512 * a.r.Intn(8)
	case 8:
		return 138*size + a.r.Intn(2000)
	}
	return a.r.Intn(14 * size)
}

func (a *pair) length() int {
	switch a.r.Intn(8) {
	case 0:
		return a.r.Intn(4)
	case 1:
		return 512 * a.r.Intn(4)
	case 2:
		return a.r.Intn(8000)
	}
	return a.r.Intn(1500)
}

// anyCount is any number of bytes, but for a file of which that would be very many.
func (a *pair) anyCount(n, off int) int {
	if x, e := inode.Get(a.x[1], a.g, n); e == api.OK && x.Size-off > 100000 {
		return -1
	}
	return int(a.r.Uint64())
}

func (a *pair) read() {
	n := a.inode()
	off, count := a.place(n), a.length()
	if a.r.Intn(10) == 0 {
		count = a.anyCount(n, off)
	}
	s, e := file.Read(a.x[0], a.g, n, off, count)
	p, f := a.plain().read(n, off, count)
	a.same("Read", fmt.Sprint(n, off, count, e), fmt.Sprint(n, off, count, f), f)
	if s != p {
		a.t.Fatalf("Read(%d, %d, %d): %.40q (%d bytes), want %.40q (%d bytes)", n, off, count, s, len(s), p, len(p))
	}
}

func (a *pair) write() {
	n := a.inode()
	off, s := a.place(n), text(a.length(), a.r.Intn(50))
	e, f := file.Write(a.x[0], a.g, n, off, s), a.plain().write(n, off, s)
	a.same("Write", fmt.Sprint(n, off, len(s), e), fmt.Sprint(n, off, len(s), f), f)
}

func (a *pair) cut() {
	n := a.inode()
	to := a.place(n)
	e, f := file.Cut(a.x[0], a.g, n, to), a.plain().cut(n, to)
	a.same("Cut", fmt.Sprint(n, to, e), fmt.Sprint(n, to, f), f)
}

func (a *pair) blocks() {
	n := a.inode()
	m, e := file.Blocks(a.x[0], a.g, n)
	k, f := a.plain().blocks(n)
	a.same("Blocks", fmt.Sprint(n, m, e), fmt.Sprint(n, k, f), f)
}

// hold holds what is put against the plain one's.
func (a *pair) hold() {
	a.t.Helper()
	nums := a.x[1].Written()
	if l := a.x[0].Written(); !slices.Equal(l, nums) {
		a.t.Fatalf("Written: %v, want %v", l, nums)
	}
	for _, i := range nums {
		b, e := a.x[0].Read(i)
		c, f := a.x[1].Read(i)
		if !bytes.Equal(b, c) || e != api.OK || f != api.OK {
			a.t.Fatalf("block %d has other bytes, or %d, %d", i, e, f)
		}
	}
}

// lay puts a block on both sides.
func (a *pair) lay(i int, b []byte) {
	if e, f := a.x[0].Write(i, b), a.x[1].Write(i, b); e != f {
		a.t.Fatalf("a Write of block %d: %d, %d", i, e, f)
	}
}

// number is any number about a disk's blocks, most of them data blocks'.
func (a *pair) number() int {
	if a.r.Intn(20) == 0 {
		return []int{1, 98, a.g.Data - 1, a.g.Blocks, 1<<32 - 1}[a.r.Intn(5)]
	}
	return a.g.Data + a.r.Intn(a.g.Blocks-a.g.Data)
}

// spoil writes any number into a record or a block, or bytes that are no record, or turns a bit, beside the calls.
func (a *pair) spoil() {
	i := []int{98, 99, 100, a.g.Data + a.r.Intn(a.g.Blocks-a.g.Data)}[a.r.Intn(4)]
	b, e := a.x[1].Read(i)
	if e != api.OK {
		return
	}
	switch {
	case i == 98:
		k := a.number() % 4096
		b[k/8] ^= 1 << (k % 8)
	case i < 101 && a.r.Intn(6) == 0:
		b[a.record(i)+a.r.Intn(64)] ^= byte(1 << a.r.Intn(8))
	case i < 101:
		at := a.record(i) + 8 + 4*a.r.Intn(12)
		copy(b[at:], table(map[int]int{0: a.number()})[:4])
	default:
		at := 4 * a.r.Intn(6)
		copy(b[at:], table(map[int]int{0: a.number()})[:4])
	}
	a.lay(i, b)
}

// record is where a record stands of an inode that is called, in its block.
func (a *pair) record(i int) int {
	if i == 99 {
		return 64 * (5 + a.r.Intn(3))
	}
	return 64 * a.r.Intn(2)
}

// stuff puts blocks with the bytes that they have till the transaction has room for a few more.
func (a *pair) stuff() {
	for range 500 {
		i := a.g.Data + a.r.Intn(a.g.Blocks-a.g.Data)
		b, e := a.x[1].Read(i)
		if e != api.OK || len(a.x[1].Written()) > 91+a.r.Intn(5) {
			return
		}
		a.lay(i, b)
	}
}

// ends may cut the power, or end the transaction; most often it commits and begins anew.
func (a *pair) ends() {
	what := a.r.Intn(25)
	for i := range 2 {
		switch {
		case what == 0:
			a.d[i].Crash(nil)
		case what == 1:
			a.x[i].Abort()
		case a.d[i].Down() || a.x[i].Over():
		default:
			if e := a.x[i].Commit(); e != api.OK {
				a.t.Fatalf("Commit: %d", e)
			}
			a.x[i] = txn.Begin(a.d[i])
		}
	}
}

func (a *pair) step() {
	switch k := a.r.Intn(60); {
	case k < 25:
		a.write()
	case k < 37:
		a.cut()
	case k < 48:
		a.read()
	case k < 53:
		a.blocks()
	case k < 56:
		a.ends()
	case k < 58:
		a.stuff()
	case a.wrong:
		a.spoil()
	}
	a.hold()
}

// P12.1 to P12.4, W7: rows of any calls on any inodes, on disks that are right and on ones that go wrong.
func TestRowsOfCalls(t *testing.T) {
	count := map[string]int{}
	for seed := range int64(240) {
		r := rand.New(rand.NewSource(seed))
		n := []int{128, 140, 300, 400}[r.Intn(4)]
		taken := []int{0, 0, 50, 90}[r.Intn(4)]
		kinds := []api.Inode{aFile, aFile, aFile, aFile, aDir, aLink, {}}
		records := map[int]api.Inode{}
		for i := 5; i < 10; i++ {
			records[i] = kinds[r.Intn(len(kinds))]
		}
		w := on(t, n, func(int) bool { return r.Intn(100) >= taken }, records, nil)
		a := &pair{t: t, r: r, g: w.g, wrong: seed%3 > 0, count: count, d: [2]*adisk.Disk{w.d}, x: [2]*txn.Txn{w.x}}
		d, e := adisk.Open(w.d.Image())
		want(t, "a disk", e, api.OK)
		a.d[1], a.x[1] = d, txn.Begin(d)
		for range 120 {
			a.step()
		}
	}
	for _, what := range []string{
		"Read E0", "Read E1", "Read E30", "Read E61", "Read E100", "Read E110", "Read E111",
		"Write E0", "Write E1", "Write E30", "Write E60", "Write E61", "Write E90", "Write E100", "Write E110", "Write E111", "Write E120",
		"Cut E0", "Cut E1", "Cut E30", "Cut E60", "Cut E61", "Cut E91", "Cut E100", "Cut E110", "Cut E111", "Cut E120",
		"Blocks E0", "Blocks E30", "Blocks E61", "Blocks E100", "Blocks E110", "Blocks E111",
	} {
		if count[what] < 10 {
			t.Errorf("%s came out %d times only", what, count[what])
		}
	}
}
