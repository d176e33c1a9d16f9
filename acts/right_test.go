package acts_test

import (
	"bytes"
	"encoding/binary"
	"fmt"

	"bole/api"
	"bole/path"
)

// findings are what a look at all bytes of a disk tells: what is wrong with it (chapter 19's words), and what it holds.
type findings struct {
	g       api.Geo
	b       []byte
	faults  []string
	orphans []int
	records []api.Inode
	had     map[int]int // which inode has a block
	count   []int       // how many blocks each inode has, tables with them
	index   []map[int]int
	names   []map[string]int
}

func (f *findings) fault(what string, args ...any) {
	f.faults = append(f.faults, fmt.Sprint(what, args))
}

func (f *findings) block(i int) []byte { return f.b[i*size : (i+1)*size] }

func number(b []byte) int { return int(binary.LittleEndian.Uint32(b)) }

func (f *findings) bit(k int) bool { return f.b[98*size+k/8]>>(k%8)&1 == 1 }

func zeros(b []byte) bool { return len(bytes.Trim(b, "\x00")) == 0 }

// record reads an inode's 64 bytes.
func (f *findings) record(n int) api.Inode {
	b := f.b[f.g.Inodes*size+64*n:][:64]
	x := api.Inode{Kind: int(b[0]), Links: int(b[2]) + 256*int(b[3]), Size: number(b[4:]), One: number(b[48:]), Two: number(b[52:])}
	for i := range x.Direct {
		x.Direct[i] = number(b[8+4*i:])
	}
	bad := b[1] != 0 || !zeros(b[56:])
	switch x.Kind {
	case 0:
		bad = !zeros(b)
	case 1:
		bad = bad || x.Links > 1000 || x.Size > api.MaxFile
	case 2:
		bad = bad || x.Links < 2 || x.Size%512 != 0 || x.Size > api.MaxFile
	case 3:
		bad = bad || x.Links < 1 || x.Links > 1000 || x.Size < 1 || x.Size > 1024
	default:
		bad = true
	}
	if bad || n == 0 && x.Kind != 0 {
		f.fault("record", n)
		return api.Inode{}
	}
	return x
}

// meet looks at a number that an inode has; deep: how many tables lie ahead of what it tells of, from the index first on.
func (f *findings) meet(n, i, deep, first int) {
	if i == 0 {
		return
	}
	if i < f.g.Data || i >= f.g.Blocks {
		f.fault("pointer", n, i)
		return
	}
	if m, ok := f.had[i]; ok {
		f.fault("twice", n, m, i)
		return
	}
	f.had[i] = n
	f.count[n]++
	if deep == 0 {
		f.index[n][first] = i
		return
	}
	if zeros(f.block(i)) {
		f.fault("an empty table", n, i)
	}
	each := map[int]int{1: 1, 2: 128}[deep]
	for k := range 128 {
		f.meet(n, number(f.block(i)[4*k:]), deep-1, first+k*each)
	}
}

// blocks goes through an inode's numbers, and holds that no bytes stand behind its size.
func (f *findings) blocks(n int) {
	x := f.records[n]
	for k, i := range x.Direct {
		f.meet(n, i, 0, k)
	}
	f.meet(n, x.One, 1, 10)
	f.meet(n, x.Two, 2, 138)
	for k, i := range f.index[n] {
		if 512*k >= x.Size || 512*(k+1) > x.Size && !zeros(f.block(i)[x.Size%512:]) {
			f.fault("tail", n, k)
		}
	}
}

func (f *findings) text(n int) string {
	b := make([]byte, (f.records[n].Size+511)/512*512)
	for k, i := range f.index[n] {
		copy(b[512*k:], f.block(i))
	}
	return string(b[:f.records[n].Size])
}

// directory reads the names.
func (f *findings) directory(n int) {
	f.names[n] = map[string]int{}
	for k := range f.records[n].Size / 512 {
		i, ok := f.index[n][k]
		if !ok {
			f.fault("no block", n, k)
			continue
		}
		for place := range 16 {
			c := f.block(i)[32*place:][:32]
			if zeros(c) {
				continue
			}
			length := int(c[4])
			if number(c) == 0 || length > 27 || !path.Name(string(c[5:min(32, 5+length)])) || !zeros(c[5+length:]) {
				f.fault("cell", n, place)
				continue
			}
			s := string(c[5 : 5+length])
			if _, ok := f.names[n][s]; ok {
				f.fault("name twice", n, s)
			}
			f.names[n][s] = number(c)
		}
	}
}

// reach goes down from a directory that lies so deep.
func (f *findings) reach(n, deep int, named []int) {
	for s, m := range f.names[n] {
		if m >= f.g.Count || f.records[m].Kind == 0 {
			f.fault("a name of none", n, s)
			continue
		}
		if deep > 32 {
			f.fault("too deep", n, s)
			continue
		}
		named[m]++
		if f.records[m].Kind != 2 {
			continue
		}
		if m == 1 || named[m] > 1 {
			f.fault("a second name", m, s)
			continue
		}
		f.reach(m, deep+1, named)
	}
}

// tree looks at names and Links.
func (f *findings) tree() {
	if f.records[1].Kind != 2 {
		f.fault("no root")
		return
	}
	named := make([]int, f.g.Count)
	f.reach(1, 1, named)
	for n := 1; n < f.g.Count; n++ {
		x := f.records[n]
		links := named[n]
		if x.Kind == 2 {
			links = 2
			for _, m := range f.names[n] {
				if f.records[m%f.g.Count].Kind == 2 {
					links++
				}
			}
		}
		switch {
		case x.Kind == 1 && x.Links == 0 && named[n] == 0:
			f.orphans = append(f.orphans, n)
		case x.Kind != 0 && n != 1 && named[n] == 0:
			f.fault("lost", n)
		case x.Kind != 0 && x.Links != links:
			f.fault("links", n, x.Links, links)
		}
	}
}

// find looks at all bytes from the bitmap on.
func find(g api.Geo, b []byte) *findings {
	f := &findings{g: g, b: b, had: map[int]int{}, count: make([]int, g.Count), index: make([]map[int]int, g.Count), names: make([]map[string]int, g.Count)}
	for n := range g.Count {
		f.records = append(f.records, f.record(n))
		f.index[n] = map[int]int{}
	}
	for n := range g.Count {
		f.blocks(n)
		switch f.records[n].Kind {
		case 2:
			f.directory(n)
		case 3:
			if _, _, e := path.Text(f.text(n)); e != api.OK {
				f.fault("text", n)
			}
		}
	}
	for k := range (g.Inodes - g.Bitmap) * 4096 {
		_, had := f.had[k]
		if f.bit(k) != (had || k < g.Data || k >= g.Blocks) {
			f.fault("bit", k, f.bit(k))
		}
	}
	f.tree()
	return f
}
