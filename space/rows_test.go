package space_test

import (
	"bytes"
	"fmt"
	"maps"
	"math/rand"
	"slices"
	"testing"

	"bole/adisk"
	"bole/api"
	"bole/space"
	"bole/txn"
)

// plain is a transaction and its disk, with the four calls as the chapter's words say them, bit by bit.
type plain struct {
	g          api.Geo
	image      []byte
	put        map[int][]byte
	down, over bool
}

func (p *plain) read(i int) ([]byte, api.Errno) {
	if p.over {
		return nil, api.ErrOver
	}
	if b, is := p.put[i]; is {
		return b, api.OK
	}
	if p.down {
		return nil, api.ErrDown
	}
	return p.image[i*size : (i+1)*size], api.OK
}

func (p *plain) bit(k int) (bool, api.Errno) {
	b, e := p.read(p.g.Bitmap + k/4096)
	if e != api.OK {
		return false, e
	}
	return b[k%4096/8]>>(k%8)&1 == 1, api.OK
}

// fits tells whether these blocks can be put, with what is put already.
func (p *plain) fits(nums ...int) bool {
	count := len(p.put)
	for _, i := range nums {
		if _, is := p.put[i]; !is {
			count++
		}
	}
	return count <= 96
}

// turn puts the bitmap's block with k's bit turned.
func (p *plain) turn(k int) {
	i := p.g.Bitmap + k/4096
	b, _ := p.read(i)
	b = bytes.Clone(b)
	b[k%4096/8] ^= 1 << (k % 8)
	p.put[i] = b
}

func (p *plain) take() (int, api.Errno) {
	for k := p.g.Data; k < p.g.Blocks; k++ {
		taken, e := p.bit(k)
		if e != api.OK {
			return 0, e
		}
		if taken {
			continue
		}
		if !p.fits(p.g.Bitmap+k/4096, k) {
			return 0, api.ErrTooBig
		}
		p.turn(k)
		p.put[k] = make([]byte, size)
		return k, api.OK
	}
	return 0, api.ErrSpace
}

func (p *plain) give(k int) api.Errno {
	if k < p.g.Data || k >= p.g.Blocks {
		return api.ErrFree
	}
	taken, e := p.bit(k)
	if e != api.OK {
		return e
	}
	if !taken {
		return api.ErrFree
	}
	if !p.fits(p.g.Bitmap + k/4096) {
		return api.ErrTooBig
	}
	p.turn(k)
	return api.OK
}

func (p *plain) used(k int) (bool, api.Errno) {
	if k < 0 || k >= p.g.Blocks {
		return false, api.ErrBlock
	}
	return p.bit(k)
}

func (p *plain) free() (int, api.Errno) {
	n := 0
	for k := p.g.Data; k < p.g.Blocks; k++ {
		taken, e := p.bit(k)
		if e != api.OK {
			return 0, e
		}
		if !taken {
			n++
		}
	}
	return n, api.OK
}

// pair is a transaction beside a plain one, and what came out of the calls so far.
type pair struct {
	t     *testing.T
	r     *rand.Rand
	d     *adisk.Disk
	x     *txn.Txn
	p     *plain
	count map[string]int
}

func (a *pair) same(what string, got, want string, e api.Errno) {
	a.t.Helper()
	a.count[fmt.Sprint(what, " ", e)]++
	if got != want {
		a.t.Fatalf("%s: %s, want %s", what, got, want)
	}
}

// number is any number about a disk's blocks, most of them data blocks'.
func (a *pair) number() int {
	g := a.p.g
	switch a.r.Intn(12) {
	case 0:
		return a.r.Intn(g.Data)
	case 1:
		return g.Blocks + a.r.Intn(5000)
	case 2:
		return -1 - a.r.Intn(5000)
	case 3:
		return int(a.r.Uint64())
	}
	return g.Data + a.r.Intn(g.Blocks-g.Data)
}

func (a *pair) take() {
	n, e := space.Take(a.x, a.p.g)
	m, f := a.p.take()
	a.same("Take", fmt.Sprint(n, e), fmt.Sprint(m, f), f)
}

func (a *pair) give() {
	i := a.number()
	e, f := space.Give(a.x, a.p.g, i), a.p.give(i)
	a.same("Give", fmt.Sprint(i, e), fmt.Sprint(i, f), f)
}

func (a *pair) used() {
	i := a.number()
	on, e := space.Used(a.x, a.p.g, i)
	was, f := a.p.used(i)
	a.same("Used", fmt.Sprint(i, on, e), fmt.Sprint(i, was, f), f)
}

func (a *pair) free() {
	n, e := space.Free(a.x, a.p.g)
	m, f := a.p.free()
	a.same("Free", fmt.Sprint(n, e), fmt.Sprint(m, f), f)
}

// puts puts blocks beside the calls, of the data and, one in so many, of the bitmap.
func (a *pair) puts(times, perBitmap int) {
	g := a.p.g
	for range times {
		i, b := g.Data+a.r.Intn(g.Blocks-g.Data), full(byte(a.r.Intn(256)))
		if a.r.Intn(perBitmap) == 0 {
			i, b = g.Bitmap+a.r.Intn(g.Inodes-g.Bitmap), anyBits(a.r)
		}
		if a.x.Write(i, b) == api.OK {
			a.p.put[i] = b
		}
	}
}

// anyBits is a block of a bitmap in which few bits, most or any are 1.
func anyBits(r *rand.Rand) []byte {
	b := make([]byte, size)
	part := []int{0, 1, 50, 99, 100}[r.Intn(5)]
	for k := range 4096 {
		if r.Intn(100) < part {
			b[k/8] |= 1 << (k % 8)
		}
	}
	return b
}

// hold holds what is put against the plain one's.
func (a *pair) hold() {
	a.t.Helper()
	if w := a.x.Written(); !slices.Equal(w, slices.Sorted(maps.Keys(a.p.put))) {
		a.t.Fatalf("Written: %v", w)
	}
	for i, b := range a.p.put {
		if seen, e := a.x.Read(i); e != api.OK || !bytes.Equal(seen, b) {
			a.t.Fatalf("Read(%d): %d, or other bytes", i, e)
		}
	}
}

// ends may cut the power, and may end the transaction.
func (a *pair) ends() {
	switch a.r.Intn(8) {
	case 0, 1:
		a.d.Crash(nil)
		a.p.down = true
	case 2:
		a.x.Abort()
		a.p.over, a.p.put = true, map[int][]byte{}
	}
}

// P9.1 to P9.5: rows of any calls, with any blocks put beside them, on any bitmap.
func TestRowsOfCalls(t *testing.T) {
	count := map[string]int{}
	for seed := range int64(300) {
		r := rand.New(rand.NewSource(seed))
		g := laid(t, []int{128, 200, 300, 4100, 8200}[r.Intn(5)])
		b := make([]byte, g.Blocks*size)
		r.Read(b[g.Data*size:])
		for i := g.Bitmap; i < g.Inodes; i++ {
			copy(b[i*size:], anyBits(r))
		}
		d := opened(t, b)
		a := &pair{t, r, d, txn.Begin(d), &plain{g: g, image: b, put: map[int][]byte{}}, count}
		if r.Intn(4) == 0 {
			a.puts(500, 300)
		}
		for range 60 {
			switch r.Intn(20) {
			case 0:
				a.ends()
			case 1, 2, 3:
				a.puts(1+r.Intn(40), 10)
			case 4, 5, 6:
				a.used()
			case 7:
				a.free()
			case 8, 9, 10, 11, 12:
				a.give()
			default:
				a.take()
			}
			a.hold()
		}
		if w, f := d.Steps(); w != 0 || f != 0 {
			t.Fatalf("P9.5: %d, %d steps", w, f)
		}
	}
	for _, what := range []string{"Take E0", "Take E30", "Take E60", "Take E61", "Take E90", "Give E0", "Give E30", "Give E60", "Give E61", "Give E91", "Used E0", "Used E30", "Used E31", "Used E61", "Free E0", "Free E30", "Free E61"} {
		if count[what] < 20 {
			t.Errorf("%s came out %d times only", what, count[what])
		}
	}
}
