package check_test

import (
	"bytes"
	"encoding/binary"
	"hash/crc32"
	"slices"

	"bole/api"
	"bole/path"
)

// words are the chapter's words said plainly, one behind the other: slow, and without a layer below but path.
type words struct {
	b                   []byte
	n, table, data, top int // how many blocks; where the inode table and the data begin; how many inodes
	told                []api.Finding
	records             map[int]api.Inode // those that are there
	met                 map[int]bool
	at                  map[[2]int]int // inode and index: the block
}

func (w *words) tell(kind, inode, block int, name string) {
	w.told = append(w.told, api.Finding{Kind: kind, Inode: inode, Block: block, Name: name})
}

func le32(b []byte) int { return int(binary.LittleEndian.Uint32(b)) }

func zeros(b []byte) bool { return bytes.Count(b, []byte{0}) == len(b) }

// behind is the bytes of an image behind its log, and whether that isn't bad.
func behind(b []byte) ([]byte, bool) {
	out := bytes.Clone(b)
	head := b[512:1024]
	if zeros(head) {
		return out, true
	}
	count := int(head[8]) + 256*int(head[9])
	if string(head[:8]) != "BOLELOG1" || count < 1 || count > 96 || head[10] != 0 || head[11] != 0 || !zeros(head[16+4*count:]) {
		return nil, false
	}
	summed := slices.Concat(head[:12], make([]byte, 4), head[16:], b[1024:1024+512*count])
	if le32(head[12:]) != int(crc32.ChecksumIEEE(summed)) {
		return nil, false
	}
	last := 97
	for i := range count {
		num := le32(head[16+4*i:])
		if num <= last || num >= len(b)/512 {
			return nil, false
		}
		last = num
		copy(out[512*num:512*num+512], b[1024+512*i:])
	}
	clear(out[512:1024])
	return out, true
}

func (w *words) bit(k int) bool { return w.b[98*512+k/8]&(1<<(k%8)) != 0 }

func (w *words) block(i int) []byte { return w.b[512*i : 512*i+512] }

// goodRecord tells the record of 64 bytes, if they are one.
func goodRecord(b []byte) (api.Inode, bool) {
	if zeros(b) {
		return api.Inode{}, true
	}
	x := api.Inode{Kind: int(b[0]), Links: int(b[2]) + 256*int(b[3]), Size: le32(b[4:]), One: le32(b[48:]), Two: le32(b[52:])}
	for i := range 10 {
		x.Direct[i] = le32(b[8+4*i:])
	}
	good := b[1] == 0 && zeros(b[56:])
	switch x.Kind {
	case 1:
		good = good && x.Links <= 1000 && x.Size <= 8459264
	case 2:
		good = good && x.Links >= 2 && x.Size <= 8459264 && x.Size%512 == 0
	case 3:
		good = good && x.Links >= 1 && x.Links <= 1000 && x.Size >= 1 && x.Size <= 1024
	default:
		good = false
	}
	return x, good
}

// goodCells tells the cells of a block that are taken, if it is a right one.
func goodCells(b []byte) ([]api.Entry, bool) {
	var l []api.Entry
	for k := range 16 {
		c := b[32*k : 32*k+32]
		if zeros(c) {
			continue
		}
		length := int(c[4])
		if zeros(c[:4]) || length < 1 || length > 27 || !path.Name(string(c[5:5+length])) || !zeros(c[5+length:]) {
			return nil, false
		}
		l = append(l, api.Entry{Place: k, Name: string(c[5 : 5+length]), Inode: le32(c)})
	}
	return l, true
}

// number meets a number of an inode: of an index, or, where table is 1 or 2, of a table or a table of tables of the indices from that one on.
func (w *words) number(inode, num, index, table int) {
	if num == 0 {
		return
	}
	if num < w.data || num > w.n-1 {
		w.tell(api.FindPointer, inode, num, "")
		return
	}
	if w.met[num] {
		w.tell(api.FindTwice, inode, num, "")
		return
	}
	w.met[num] = true
	if table > 0 {
		if zeros(w.block(num)) {
			w.tell(api.FindTail, inode, num, "")
		}
		for k := range 128 {
			below := index + k
			if table == 2 {
				below = index + 128*k
			}
			w.number(inode, le32(w.block(num)[4*k:]), below, table-1)
		}
		return
	}
	w.at[[2]int{inode, index}] = num
	size := w.records[inode].Size
	end := (size + 511) / 512
	if index >= end || index == end-1 && size%512 != 0 && !zeros(w.block(num)[size%512:]) {
		w.tell(api.FindTail, inode, num, "")
	}
}

// text is the bytes of an inode.
func (w *words) text(inode int) string {
	var b []byte
	for k := range 2 {
		part := make([]byte, 512)
		if num := w.at[[2]int{inode, k}]; num != 0 {
			part = w.block(num)
		}
		b = append(b, part...)
	}
	return string(b[:w.records[inode].Size])
}

// cell is one of a directory.
type cell struct {
	dir, inode int
	name       string
}

// kind is that of an inode that is there; else 0.
func (w *words) kind(inode int) int { return w.records[inode].Kind }

// inside goes through directories and symbolic links: all cells, in their order.
func (w *words) inside() []cell {
	var all []cell
	for inode := 1; inode < w.top; inode++ {
		if w.kind(inode) == 3 {
			if _, _, e := path.Text(w.text(inode)); e != api.OK {
				w.tell(api.FindText, inode, 0, "")
			}
		}
		if w.kind(inode) != 2 {
			continue
		}
		for k := 0; k < w.records[inode].Size/512; k++ {
			num := w.at[[2]int{inode, k}]
			if num == 0 {
				w.tell(api.FindCell, inode, 0, "")
				break
			}
			l, good := goodCells(w.block(num))
			if !good {
				w.tell(api.FindCell, inode, num, "")
			}
			for _, e := range l {
				c := cell{inode, e.Inode, e.Name}
				if slices.ContainsFunc(all, func(o cell) bool { return o.dir == c.dir && o.name == c.name }) {
					w.tell(api.FindName, inode, 0, c.name)
				}
				another := slices.ContainsFunc(all, func(o cell) bool { return o.inode == c.inode })
				if w.kind(c.inode) == 0 {
					w.tell(api.FindNone, inode, 0, c.name)
				} else if w.kind(c.inode) == 2 && (c.inode == 1 || another) {
					w.tell(api.FindParent, c.inode, 0, c.name)
				}
				all = append(all, c)
			}
		}
	}
	return all
}

// deep tells how deep the inodes that are reached lie, the root at 0: each name is asked again and again, till nothing comes to lie less deep.
func (w *words) deep(all []cell) map[int]int {
	lies := map[int]int{}
	if w.kind(1) != 2 {
		return lies
	}
	lies[1] = 0
	for changed := true; changed; {
		changed = false
		for _, c := range all {
			above, reached := lies[c.dir]
			if !reached || w.kind(c.inode) == 0 || above+1 > 32 {
				continue
			}
			if d, ok := lies[c.inode]; !ok || above+1 < d {
				lies[c.inode] = above + 1
				changed = true
			}
		}
	}
	return lies
}

// outside tells of depths, of what isn't reached, and of Links.
func (w *words) outside(all []cell) {
	lies := w.deep(all)
	for _, c := range all {
		if above, reached := lies[c.dir]; reached && above+1 > 32 {
			w.tell(api.FindDeep, c.dir, 0, c.name)
		}
	}
	for inode := 1; inode < w.top; inode++ {
		x, there := w.records[inode]
		names, dirs := 0, 0
		for _, c := range all {
			if c.inode == inode {
				names++
			}
			if c.dir == inode && w.kind(c.inode) == 2 {
				dirs++
			}
		}
		_, reached := lies[inode]
		if inode == 1 && x.Kind != 2 {
			w.tell(api.FindLost, 1, 0, "")
		} else if inode != 1 && x.Kind == 1 && x.Links == 0 && names == 0 {
			w.tell(api.FindOrphan, inode, 0, "")
		} else if there && !reached {
			w.tell(api.FindLost, inode, 0, "")
		}
		if x.Kind == 2 && x.Links != 2+dirs || there && x.Kind != 2 && x.Links != names {
			w.tell(api.FindLinks, inode, 0, "")
		}
	}
}

// plain is the findings of an image.
func plain(b []byte) []api.Finding {
	n := len(b) / 512
	if len(b)%512 != 0 || n < 128 || n > 16384 || !bytes.Equal(b[:512], superOf(n)) {
		return []api.Finding{{Kind: api.FindSuper}}
	}
	blocks, good := behind(b)
	if !good {
		return []api.Finding{{Kind: api.FindHead}}
	}
	table := 98 + (n+4095)/4096
	w := &words{b: blocks, n: n, table: table, data: table + n/64, top: n / 64 * 8, records: map[int]api.Inode{}, met: map[int]bool{}, at: map[[2]int]int{}}
	for k := range 4096 * (table - 98) {
		if (k < w.data || k >= n) && !w.bit(k) {
			w.tell(api.FindMeta, 0, k, "")
		}
	}
	for inode := range w.top {
		bytes := w.b[512*table+64*inode:][:64]
		x, good := goodRecord(bytes)
		if !good || inode == 0 && !zeros(bytes) {
			w.tell(api.FindRecord, inode, 0, "")
		} else if x.Kind != 0 {
			w.records[inode] = x
		}
	}
	for inode := range w.top {
		x := w.records[inode]
		for k, num := range x.Direct {
			w.number(inode, num, k, 0)
		}
		w.number(inode, x.One, 10, 1)
		w.number(inode, x.Two, 138, 2)
	}
	for k := w.data; k < n; k++ {
		if w.met[k] && !w.bit(k) {
			w.tell(api.FindFree, 0, k, "")
		}
		if !w.met[k] && w.bit(k) {
			w.tell(api.FindTaken, 0, k, "")
		}
	}
	w.outside(w.inside())
	return w.told
}
