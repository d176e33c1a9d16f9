package bmap_test

import (
	"bytes"
	"encoding/binary"
	"fmt"
	"maps"
	"math/rand"
	"slices"
	"testing"

	"bole/adisk"
	"bole/api"
	"bole/bmap"
	"bole/txn"
)

// plain is a transaction and its disk, with the four calls as the chapter's words say them, case by case.
type plain struct {
	g          api.Geo
	image      []byte
	put        map[int][]byte // bytes that are put are never changed
	down, over bool
}

func (p *plain) copied() *plain {
	c := *p
	c.put = maps.Clone(p.put)
	return &c
}

func (p *plain) read(i int) ([]byte, api.Errno) {
	if p.over {
		return nil, api.ErrOver
	}
	if b, is := p.put[i]; is {
		return bytes.Clone(b), api.OK
	}
	if p.down {
		return nil, api.ErrDown
	}
	return bytes.Clone(p.image[i*size : (i+1)*size]), api.OK
}

func (p *plain) write(i int, b []byte) api.Errno {
	if p.over {
		return api.ErrOver
	}
	if _, is := p.put[i]; !is && len(p.put) == 96 {
		return api.ErrTooBig
	}
	p.put[i] = bytes.Clone(b)
	return api.OK
}

func (p *plain) bit(k int) (bool, api.Errno) {
	b, e := p.read(98 + k/4096)
	if e != api.OK {
		return false, e
	}
	return b[k%4096/8]>>(k%8)&1 == 1, api.OK
}

func (p *plain) turn(k int) api.Errno {
	b, e := p.read(98 + k/4096)
	if e != api.OK {
		return e
	}
	b[k%4096/8] ^= 1 << (k % 8)
	return p.write(98+k/4096, b)
}

func (p *plain) take() (int, api.Errno) {
	for k := p.g.Data; k < p.g.Blocks; k++ {
		taken, e := p.bit(k)
		if e != api.OK {
			return 0, e
		}
		if !taken {
			if e := p.turn(k); e != api.OK {
				return 0, e
			}
			return k, p.write(k, make([]byte, size))
		}
	}
	return 0, api.ErrSpace
}

func (p *plain) give(k int) api.Errno {
	taken, e := p.bit(k)
	if e != api.OK {
		return e
	}
	if !taken {
		return api.ErrFree
	}
	return p.turn(k)
}

func (p *plain) good(n int) bool { return n >= p.g.Data && n < p.g.Blocks }

func at(b []byte, place int) int { return int(binary.LittleEndian.Uint32(b[4*place:])) }

// find goes a way number by number: the places of it, the first in the record.
func (p *plain) find(x api.Inode, k int) (int, api.Errno) {
	if k < 0 || k > 16521 {
		return 0, api.ErrFar
	}
	way := places(k)
	n := append(slices.Clone(x.Direct[:]), x.One, x.Two)[way[0]]
	for _, place := range way[1:] {
		if n == 0 {
			return 0, api.OK
		}
		if !p.good(n) {
			return 0, api.ErrPointer
		}
		b, e := p.read(n)
		if e != api.OK {
			return 0, e
		}
		n = at(b, place)
	}
	if n != 0 && !p.good(n) {
		return 0, api.ErrPointer
	}
	return n, api.OK
}

// refused takes back what a refused call has put.
func (p *plain) refused(before map[int][]byte, e api.Errno) {
	if e != api.OK {
		p.put = before
	}
}

func (p *plain) add(x api.Inode, k int) (y api.Inode, n int, e api.Errno) {
	before := maps.Clone(p.put)
	defer func() { p.refused(before, e) }()
	if k < 0 || k > 16521 {
		return api.Inode{}, 0, api.ErrFar
	}
	way := places(k)
	n = append(slices.Clone(x.Direct[:]), x.One, x.Two)[way[0]]
	if n == 0 {
		if n, e = p.take(); e != api.OK {
			return api.Inode{}, 0, e
		}
		x = withOne(x, way[0], n)
	} else if !p.good(n) {
		return api.Inode{}, 0, api.ErrPointer
	}
	for _, place := range way[1:] {
		table := n
		b, e := p.read(table)
		if e != api.OK {
			return api.Inode{}, 0, e
		}
		if n = at(b, place); n == 0 {
			if n, e = p.take(); e != api.OK {
				return api.Inode{}, 0, e
			}
			if e = p.write(table, with(b, place, n)); e != api.OK {
				return api.Inode{}, 0, e
			}
		} else if !p.good(n) {
			return api.Inode{}, 0, api.ErrPointer
		}
	}
	return x, n, api.OK
}

// cutTable is rule 2 of Cut: a table whose number isn't 0, from a place on. It tells whether it was given back.
func (p *plain) cutTable(n, from int) (bool, api.Errno) {
	if !p.good(n) {
		return false, api.ErrPointer
	}
	b, e := p.read(n)
	if e != api.OK {
		return false, e
	}
	given := false
	for place := max(from, 0); place < 128; place++ {
		m := at(b, place)
		if m == 0 {
			continue
		}
		if !p.good(m) {
			return false, api.ErrPointer
		}
		if e := p.give(m); e != api.OK {
			return false, e
		}
		b = with(b, place, 0)
		given = true
	}
	if bytes.Equal(b, make([]byte, size)) {
		return true, p.give(n)
	}
	if given {
		return false, p.write(n, b)
	}
	return false, api.OK
}

// cutTwo is rule 3.
func (p *plain) cutTwo(n, k int) (bool, api.Errno) {
	if !p.good(n) {
		return false, api.ErrPointer
	}
	b, e := p.read(n)
	if e != api.OK {
		return false, e
	}
	became := false
	for place := range 128 {
		if k >= 138 && place < (k-138)/128 || at(b, place) == 0 {
			continue
		}
		gone, e := p.cutTable(at(b, place), k-138-128*place)
		if e != api.OK {
			return false, e
		}
		if gone {
			b = with(b, place, 0)
			became = true
		}
	}
	if bytes.Equal(b, make([]byte, size)) {
		return true, p.give(n)
	}
	if became {
		return false, p.write(n, b)
	}
	return false, api.OK
}

func (p *plain) cut(x api.Inode, k int) (y api.Inode, e api.Errno) {
	before := maps.Clone(p.put)
	defer func() { p.refused(before, e) }()
	if k < 0 || k > 16522 {
		return api.Inode{}, api.ErrFar
	}
	for i := k; i < 10; i++ {
		if x.Direct[i] == 0 {
			continue
		}
		if !p.good(x.Direct[i]) {
			return api.Inode{}, api.ErrPointer
		}
		if e := p.give(x.Direct[i]); e != api.OK {
			return api.Inode{}, e
		}
		x.Direct[i] = 0
	}
	if k < 138 && x.One != 0 {
		gone, e := p.cutTable(x.One, k-10)
		if e != api.OK {
			return api.Inode{}, e
		}
		if gone {
			x.One = 0
		}
	}
	if k < 16522 && x.Two != 0 {
		gone, e := p.cutTwo(x.Two, k)
		if e != api.OK {
			return api.Inode{}, e
		}
		if gone {
			x.Two = 0
		}
	}
	return x, api.OK
}

// allOf is the numbers of a table, each with its index from first on, and what is wrong with them.
func (p *plain) allOf(n, first int) ([][2]int, api.Errno) {
	if !p.good(n) {
		return nil, api.ErrPointer
	}
	b, e := p.read(n)
	if e != api.OK {
		return nil, e
	}
	var l [][2]int
	for place := range 128 {
		m := at(b, place)
		if m != 0 && !p.good(m) {
			return nil, api.ErrPointer
		}
		if m != 0 {
			l = append(l, [2]int{first + place, m})
		}
	}
	return l, api.OK
}

func (p *plain) allTwo(n int) ([][2]int, []int, api.Errno) {
	if !p.good(n) {
		return nil, nil, api.ErrPointer
	}
	b, e := p.read(n)
	if e != api.OK {
		return nil, nil, e
	}
	var l [][2]int
	tables := []int{n}
	for place := range 128 {
		if at(b, place) == 0 {
			continue
		}
		m, e := p.allOf(at(b, place), 138+128*place)
		if e != api.OK {
			return nil, nil, e
		}
		l, tables = append(l, m...), append(tables, at(b, place))
	}
	return l, tables, api.OK
}

func (p *plain) all(x api.Inode) ([][2]int, []int, api.Errno) {
	var l [][2]int
	var tables []int
	for i, n := range x.Direct {
		if n != 0 && !p.good(n) {
			return nil, nil, api.ErrPointer
		}
		if n != 0 {
			l = append(l, [2]int{i, n})
		}
	}
	if x.One != 0 {
		m, e := p.allOf(x.One, 10)
		if e != api.OK {
			return nil, nil, e
		}
		l, tables = append(l, m...), append(tables, x.One)
	}
	if x.Two != 0 {
		m, ts, e := p.allTwo(x.Two)
		if e != api.OK {
			return nil, nil, e
		}
		l, tables = append(l, m...), append(tables, ts...)
	}
	return l, tables, api.OK
}

// pair is a transaction beside a plain one, some records, and what came out of the calls so far.
type pair struct {
	t     *testing.T
	r     *rand.Rand
	d     *adisk.Disk
	x     *txn.Txn
	p     *plain
	files []api.Inode
	count map[string]int
}

func (a *pair) same(what, got, want string, e api.Errno) {
	a.t.Helper()
	a.count[fmt.Sprint(what, " ", e)]++
	if got != want {
		a.t.Fatalf("%s: %s, want %s", what, got, want)
	}
}

// index is any index, most of them of a few tables.
func (a *pair) index() int {
	switch a.r.Intn(14) {
	case 0:
		return a.r.Intn(16530) - 3
	case 1:
		return edges[a.r.Intn(len(edges))]
	case 2:
		return int(a.r.Uint64())
	case 3, 4, 5:
		return a.r.Intn(10)
	case 6, 7, 8, 9:
		return 10 + a.r.Intn(20)
	}
	return 138 + 128*a.r.Intn(4) + a.r.Intn(6)
}

// number is any number about a disk's blocks, most of them data blocks'.
func (a *pair) number() int {
	g := a.p.g
	switch a.r.Intn(40) {
	case 0:
		return a.r.Intn(g.Data)
	case 1:
		return g.Blocks + a.r.Intn(5000)
	case 2:
		return int(a.r.Uint32())
	}
	return g.Data + a.r.Intn(g.Blocks-g.Data)
}

func (a *pair) find(x api.Inode) {
	k := a.index()
	n, e := bmap.Find(a.x, a.p.g, x, k)
	m, f := a.p.find(x, k)
	a.same("Find", fmt.Sprint(k, n, e), fmt.Sprint(k, m, f), f)
}

func (a *pair) add(x *api.Inode) {
	k, stood := a.index(), a.p.copied()
	y, n, e := bmap.Add(a.x, a.p.g, *x, k)
	z, m, f := a.p.add(*x, k)
	a.same("Add", fmt.Sprint(k, y, n, e), fmt.Sprint(k, z, m, f), f)
	if e != api.OK {
		return
	}
	*x = y
	taken, tables := 0, 0
	for _, i := range a.more(stood) {
		if was, _ := stood.bit(i); was {
			tables++
		} else {
			taken++
		}
	}
	if taken > 3 || tables > 1 {
		a.t.Fatalf("P10.6: Add(%d) puts %d blocks that were free and %d tables more", k, taken, tables)
	}
}

// more is which blocks are put now and weren't, the bitmap's left out.
func (a *pair) more(stood *plain) []int {
	var l []int
	for _, i := range a.x.Written() {
		if _, is := stood.put[i]; !is && i >= a.p.g.Data {
			l = append(l, i)
		}
	}
	return l
}

func (a *pair) cut(x *api.Inode) {
	k := a.index()
	if a.r.Intn(20) == 0 {
		k = 16520 + a.r.Intn(4)
	}
	stood := a.p.copied()
	y, e := bmap.Cut(a.x, a.p.g, *x, k)
	z, f := a.p.cut(*x, k)
	a.same("Cut", fmt.Sprint(k, y, e), fmt.Sprint(k, z, f), f)
	if e != api.OK {
		return
	}
	*x = y
	if l := a.more(stood); len(l) > 3 {
		a.t.Fatalf("P10.6: Cut(%d) puts %v more", k, l)
	}
}

func (a *pair) all(x api.Inode) {
	l, tables, e := bmap.All(a.x, a.p.g, x)
	m, others, f := a.p.all(x)
	a.same("All", fmt.Sprint(l, tables, e), fmt.Sprint(m, others, f), f)
}

// hold holds what is put against the plain one's.
func (a *pair) hold() {
	a.t.Helper()
	if w := a.x.Written(); !slices.Equal(w, slices.Sorted(maps.Keys(a.p.put))) {
		a.t.Fatalf("Written: %v, want %v", w, slices.Sorted(maps.Keys(a.p.put)))
	}
	for i, b := range a.p.put {
		if seen, e := a.x.Read(i); e != api.OK || !bytes.Equal(seen, b) {
			a.t.Fatalf("Read(%d): %d, or other bytes", i, e)
		}
	}
}

// spoil writes any number into a record, or into a block, beside the calls.
func (a *pair) spoil(x *api.Inode) {
	if a.r.Intn(3) > 0 {
		*x = withOne(*x, a.r.Intn(12), a.number())
		return
	}
	i := a.p.g.Data + a.r.Intn(a.p.g.Blocks-a.p.g.Data)
	b, e := a.p.read(i)
	if e != api.OK {
		return
	}
	b = with(b, a.r.Intn(128), a.number())
	if a.x.Write(i, b) == api.OK {
		a.p.put[i] = b
	}
}

// stuff puts blocks with the bytes that they have till the transaction has room for a few more, or for none.
func (a *pair) stuff() {
	for range 500 {
		i := a.p.g.Data + a.r.Intn(a.p.g.Blocks-a.p.g.Data)
		b, e := a.p.read(i)
		if len(a.p.put) > 92 && a.r.Intn(5) == 0 || e != api.OK {
			return
		}
		if a.x.Write(i, b) == api.OK {
			a.p.put[i] = b
		}
	}
}

// ends may cut the power, and ends the transaction by one way or another.
func (a *pair) ends() {
	switch a.r.Intn(8) {
	case 0:
		a.d.Crash(nil)
		a.p.down = true
	case 1:
		a.x.Abort()
		a.p.over, a.p.put = true, map[int][]byte{}
	default:
		if a.p.down || a.p.over {
			return
		}
		if e := a.x.Commit(); e != api.OK {
			a.t.Fatalf("Commit: %d", e)
		}
		a.p.image = a.d.Image()
		a.p.put = map[int][]byte{}
		a.x = txn.Begin(a.d)
		if a.r.Intn(3) == 0 {
			a.stuff()
		}
	}
}

// anyImage is a disk's bytes: some blocks are tables with a few numbers, the others zeros; of the data's bits so many of 100 are 1.
func (a *pair) anyImage(taken int) []byte {
	g := a.p.g
	b := make([]byte, g.Blocks*size)
	for k := range (g.Inodes - g.Bitmap) * 4096 {
		if k < g.Data || k >= g.Blocks || a.r.Intn(100) < taken {
			b[g.Bitmap*size+k/8] |= 1 << (k % 8)
		}
	}
	for i := g.Data; i < g.Blocks; i++ {
		for range a.r.Intn(4) {
			binary.LittleEndian.PutUint32(b[i*size+4*a.r.Intn(6):], uint32(a.number()))
		}
	}
	return b
}

func (a *pair) step() {
	x := &a.files[a.r.Intn(len(a.files))]
	switch a.r.Intn(60) {
	case 59:
		a.stuff()
	case 0, 58:
		a.ends()
	case 1, 2, 57:
		a.spoil(x)
	case 3, 4, 5, 6, 7, 8, 9, 10, 11, 12, 13, 14:
		a.cut(x)
	case 15, 16, 17, 18, 19, 20:
		a.find(*x)
	case 21, 22, 23, 24:
		a.all(*x)
	default:
		a.add(x)
	}
	a.hold()
}

// P10.1 to P10.4, P10.6, P10.7, W7: rows of any calls on any records and tables, right ones and wrong ones.
func TestRowsOfCalls(t *testing.T) {
	count := map[string]int{}
	for seed := range int64(400) {
		r := rand.New(rand.NewSource(seed))
		a := &pair{t: t, r: r, count: count, p: &plain{g: laid(t, []int{128, 200, 300, 4100}[r.Intn(4)]), put: map[int][]byte{}}}
		a.p.image = a.anyImage([]int{0, 5, 60, 90, 100}[r.Intn(5)])
		if r.Intn(2) == 0 {
			clear(a.p.image[a.p.g.Data*size:])
		}
		d, e := adisk.Open(a.p.image)
		if e != api.OK {
			t.Fatalf("a disk: %d", e)
		}
		a.d, a.x = d, txn.Begin(d)
		a.files = make([]api.Inode, 3)
		for i := range a.files {
			a.files[i] = api.Inode{Kind: r.Intn(9) - 4, Links: r.Intn(9) - 4, Size: r.Intn(9) - 4}
			for range r.Intn(4) * r.Intn(2) {
				a.files[i] = withOne(a.files[i], r.Intn(12), a.number())
			}
		}
		for range 120 {
			a.step()
		}
	}
	for _, what := range []string{
		"Find E0", "Find E30", "Find E61", "Find E100", "Find E101",
		"Add E0", "Add E30", "Add E60", "Add E61", "Add E90", "Add E100", "Add E101",
		"Cut E0", "Cut E30", "Cut E60", "Cut E61", "Cut E91", "Cut E100", "Cut E101",
		"All E0", "All E30", "All E61", "All E100",
	} {
		if count[what] < 20 {
			t.Errorf("%s came out %d times only", what, count[what])
		}
	}
}

// grown is records made by Add and Cut alone, each with what stands at its indices.
type grown struct {
	*world
	files  []api.Inode
	blocks []map[int]int
}

func (a *grown) hold(i int) {
	t, x, blocks := a.t, a.files[i], a.blocks[i]
	t.Helper()
	l, tables, e := bmap.All(a.x, a.g, x)
	if e != api.OK || len(l) != len(blocks) {
		t.Fatalf("P10.5: All: %d of %d indices, %d", len(l), len(blocks), e)
	}
	count := map[int]bool{}
	low, high := false, false
	for j, b := range l {
		if blocks[b[0]] != b[1] || j > 0 && l[j-1][0] >= b[0] {
			t.Fatalf("P10.5: All tells %v at %d, want %d", b, j, blocks[b[0]])
		}
		low = low || b[0] >= 10 && b[0] < 138
		high = high || b[0] >= 138
		if b[0] >= 138 {
			count[(b[0]-138)/128] = true
		}
	}
	if (x.One != 0) != low || (x.Two != 0) != high {
		t.Fatalf("P10.5: One %d, Two %d of %v", x.One, x.Two, l)
	}
	want := len(count)
	for _, n := range []int{x.One, x.Two} {
		if n != 0 {
			want++
		}
	}
	if len(tables) != want {
		t.Fatalf("P10.5: tables %v, want %d", tables, want)
	}
	if low && tables[0] != x.One || high && !slices.Contains(tables, x.Two) {
		t.Fatalf("P10.5: tables %v of One %d, Two %d", tables, x.One, x.Two)
	}
}

// whole holds that no block is told twice, that all that are told are taken, and no others.
func (a *grown) whole() {
	a.t.Helper()
	told := map[int]int{}
	for _, x := range a.files {
		l, tables, _ := bmap.All(a.x, a.g, x)
		for _, b := range l {
			told[b[1]]++
		}
		for _, n := range tables {
			told[n]++
		}
	}
	for n, times := range told {
		if times != 1 {
			a.t.Fatalf("P10.5: block %d is told %d times", n, times)
		}
	}
	a.free("P10.5", a.g.Blocks-a.g.Data-len(told))
}

func (a *grown) act(r *rand.Rand) {
	i := r.Intn(len(a.files))
	k := []int{r.Intn(10), r.Intn(138), r.Intn(16522), 138 + r.Intn(300), edges[r.Intn(len(edges))]}[r.Intn(5)]
	if r.Intn(4) == 0 {
		y, e := bmap.Cut(a.x, a.g, a.files[i], k)
		want(a.t, "P10.5: Cut", e, api.OK)
		a.files[i] = y
		maps.DeleteFunc(a.blocks[i], func(j, _ int) bool { return j >= k })
		return
	}
	y, n, e := bmap.Add(a.x, a.g, a.files[i], k)
	if e == api.ErrSpace || e == api.ErrTooBig {
		return
	}
	want(a.t, "P10.5: Add", e, api.OK)
	if was, is := a.blocks[i][k]; is && was != n {
		a.t.Fatalf("P10.5: Add(%d): %d, was %d", k, n, was)
	}
	a.files[i], a.blocks[i][k] = y, n
}

// P10.5: files that Add and Cut alone have made, across transactions, and at the end all cut.
func TestGrownFiles(t *testing.T) {
	for seed := range int64(40) {
		r := rand.New(rand.NewSource(seed))
		a := &grown{begun(t, []int{128, 150, 400}[r.Intn(3)], all, nil), make([]api.Inode, 3), []map[int]int{{}, {}, {}}}
		for range 200 {
			a.act(r)
			for i := range a.files {
				a.hold(i)
			}
			a.whole()
			for range 5 {
				i, k := r.Intn(3), r.Intn(16522)
				a.find("P10.5", a.files[i], k, a.blocks[i][k])
			}
			if r.Intn(10) == 0 {
				want(t, "Commit", a.x.Commit(), api.OK)
				a.x = txn.Begin(a.d)
			}
		}
		for i, x := range a.files {
			for k, n := range a.blocks[i] {
				a.find("P10.5", x, k, n)
			}
			y, e := bmap.Cut(a.x, a.g, x, 0)
			if y != (api.Inode{}) || e != api.OK {
				t.Errorf("P10.5: Cut(0): %v, %d", y, e)
			}
		}
		a.free("P10.5: all cut", a.g.Blocks-a.g.Data)
	}
}

// P10.5, P10.6: a file as great as a great disk takes it, in transactions of a few blocks, and cut in steps.
func TestGreatFile(t *testing.T) {
	w := begun(t, 2000, all, nil)
	x, n := api.Inode{}, 0
	for range 4000 {
		stood := w.x.Written()
		y, _, e := bmap.Add(w.x, w.g, x, n)
		if e == api.ErrSpace {
			break
		}
		if e == api.ErrTooBig {
			want(t, "Commit", w.x.Commit(), api.OK)
			w.x = txn.Begin(w.d)
			continue
		}
		if e != api.OK {
			t.Fatalf("P10.2: Add(%d): %d", n, e)
		}
		if more := len(w.x.Written()) - len(stood); more > 5 {
			t.Fatalf("P10.6: Add(%d) puts %d blocks", n, more)
		}
		x, n = y, n+1
	}
	l, tables, e := bmap.All(w.x, w.g, x)
	if e != api.OK || len(l) != n || len(l)+len(tables) != 2000-w.g.Data || len(tables) != 2+(n-138+127)/128 {
		t.Fatalf("P10.5: %d blocks, %d tables of %d, %d", len(l), len(tables), n, e)
	}
	w.free("P10.5", 0)
	for _, k := range []int{n, n - 1, 1500, 1500, 650, 649, 266, 139, 138, 137, 11, 10, 9, 0} {
		want(t, "Commit", w.x.Commit(), api.OK)
		w.x = txn.Begin(w.d)
		x = w.cut("P10.3", x, k)
		if l := w.x.Written(); len(l) > 4 {
			t.Errorf("P10.6: Cut(%d) puts %v", k, l)
		}
		if l, _, _ := bmap.All(w.x, w.g, x); len(l) != k {
			t.Errorf("P10.5: %d blocks behind Cut(%d)", len(l), k)
		}
	}
	w.free("P10.5", 2000-w.g.Data)
}
