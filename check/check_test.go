package check_test

import (
	"bytes"
	"encoding/binary"
	"fmt"
	"hash/crc32"
	"slices"
	"strconv"
	"strings"
	"testing"

	"bole/api"
	"bole/check"
	"bole/geo"
)

const size = api.BlockSize

func rep(s string, n int) string { return strings.Repeat(s, n) }

// shapes are the Kinds by their words, with the fields that the chapter's table gives them: i Inode, b Block, n Name.
var shapes = map[string]struct {
	kind   int
	fields string
}{
	"super": {1, ""}, "head": {2, ""}, "meta": {3, "b"}, "record": {4, "i"}, "pointer": {5, "ib"}, "twice": {6, "ib"},
	"taken": {7, "b"}, "free": {8, "b"}, "tail": {9, "ib"}, "cell": {10, "ib"}, "name": {11, "in"}, "none": {12, "in"},
	"parent": {13, "in"}, "lost": {14, "i"}, "links": {15, "i"}, "deep": {16, "in"}, "text": {17, "i"}, "orphan": {18, "i"},
}

// finding reads one of a line, such as "tail 2 101".
func finding(line string) api.Finding {
	word, left, _ := strings.Cut(line, " ")
	shape, ok := shapes[word]
	if !ok {
		panic(line)
	}
	f := api.Finding{Kind: shape.kind}
	for _, field := range shape.fields {
		if field == 'n' {
			f.Name, left = left, ""
			break
		}
		var digits string
		digits, left, _ = strings.Cut(left, " ")
		n, err := strconv.Atoi(digits)
		if err != nil {
			panic(line)
		}
		if field == 'i' {
			f.Inode = n
		} else {
			f.Block = n
		}
	}
	if left != "" {
		panic(line)
	}
	return f
}

func findings(lines []string) []api.Finding {
	var l []api.Finding
	for _, line := range lines {
		l = append(l, finding(line))
	}
	return l
}

// sketch is an image that is drawn by hand.
type sketch struct {
	t *testing.T
	g api.Geo
	b []byte
}

// superOf is a super block of n blocks, whether or not a file system has so many.
func superOf(n int) []byte {
	b := append([]byte("BOLEFS01"), binary.LittleEndian.AppendUint32(nil, uint32(n))...)
	b = binary.LittleEndian.AppendUint32(b, crc32.ChecksumIEEE(b))
	return append(b, make([]byte, size-len(b))...)
}

// fresh is the image of a disk behind mkfs; old bytes stand in the log's data and in the data blocks.
func fresh(t *testing.T, n int) *sketch {
	t.Helper()
	g, e := geo.Of(n)
	if e != api.OK {
		t.Fatalf("a disk of %d blocks: %d", n, e)
	}
	s := &sketch{t, g, make([]byte, n*size)}
	copy(s.b, superOf(n))
	for i := range s.b {
		if block := i / size; 2 <= block && block < 98 || block >= g.Data {
			s.b[i] = 7
		}
	}
	for k := range 4096 * (g.Inodes - g.Bitmap) {
		if k < g.Data || k >= n {
			s.take(k)
		}
	}
	s.record(1, folder(2, 0))
	return s
}

func (s *sketch) copy() *sketch { return &sketch{s.t, s.g, bytes.Clone(s.b)} }

// take puts bits on.
func (s *sketch) take(blocks ...int) {
	for _, k := range blocks {
		s.b[98*size+k/8] |= 1 << (k % 8)
	}
}

// free puts bits off.
func (s *sketch) free(blocks ...int) {
	for _, k := range blocks {
		s.b[98*size+k/8] &^= 1 << (k % 8)
	}
}

// turn lays bytes into a block, at a place.
func (s *sketch) turn(block, at int, b ...byte) { copy(s.b[block*size+at:], b) }

// lay lays a whole block, zeros behind the text, and takes it.
func (s *sketch) lay(block int, text string) {
	clear(s.b[block*size : (block+1)*size])
	copy(s.b[block*size:(block+1)*size], text)
	s.take(block)
}

// table lays a block of numbers, by their places, and takes it.
func (s *sketch) table(block int, nums map[int]int) {
	s.lay(block, "")
	for i, num := range nums {
		binary.LittleEndian.PutUint32(s.b[block*size+4*i:], uint32(num))
	}
}

func has(name string, inode int) api.Entry { return api.Entry{Name: name, Inode: inode} }

// cells lays a block of cells, one behind the other, and takes it; an inode of 0 leaves one free.
func (s *sketch) cells(block int, l ...api.Entry) {
	s.lay(block, "")
	for place, c := range l {
		if c.Inode == 0 {
			continue
		}
		cell := s.b[block*size+32*place:][:32]
		binary.LittleEndian.PutUint32(cell, uint32(c.Inode))
		cell[4] = byte(len(c.Name))
		copy(cell[5:], c.Name)
	}
}

// raw is the 64 bytes of any record, whether or not it may be.
func raw(x api.Inode) []byte {
	b := []byte{byte(x.Kind), 0}
	b = binary.LittleEndian.AppendUint16(b, uint16(x.Links))
	b = binary.LittleEndian.AppendUint32(b, uint32(x.Size))
	for _, num := range append(x.Direct[:], x.One, x.Two) {
		b = binary.LittleEndian.AppendUint32(b, uint32(num))
	}
	return append(b, make([]byte, 8)...)
}

// bytesOf is where the record of an inode stands.
func (s *sketch) bytesOf(n int) []byte { return s.b[s.g.Inodes*size+64*n:][:64] }

func (s *sketch) record(n int, x api.Inode) { copy(s.bytesOf(n), raw(x)) }

// dir lays a directory: its record, and its cells in the blocks from one on, as many as they want.
func (s *sketch) dir(n, links, block int, l ...api.Entry) {
	x := folder(links, 0)
	for part := range slices.Chunk(l, 16) {
		s.cells(block, part...)
		x.Direct[x.Size/size] = block
		x.Size += size
		block++
	}
	s.record(n, x)
}

func made(kind, links, size int, direct []int) api.Inode {
	x := api.Inode{Kind: kind, Links: links, Size: size}
	copy(x.Direct[:], direct)
	return x
}

func plainFile(links, size int, direct ...int) api.Inode { return made(1, links, size, direct) }
func folder(links, size int, direct ...int) api.Inode    { return made(2, links, size, direct) }
func linkOf(links, size int, direct ...int) api.Inode    { return made(3, links, size, direct) }

// reach gives those inodes names in the root that aren't directories: nothing is told of them then, but what is wrong with themselves.
func (s *sketch) reach(block int, inodes ...int) {
	var l []api.Entry
	for _, n := range inodes {
		l = append(l, has(fmt.Sprint("n", n), n))
	}
	s.dir(1, 2, block, l...)
}

// few tells a list, if it isn't long.
func few(l []api.Finding) string {
	if len(l) > 12 {
		return fmt.Sprint(l[:12], " and ", len(l)-12, " more")
	}
	return fmt.Sprint(l)
}

// finds holds what is told of the image: by the lines, and by the chapter's words said plainly; and that it stays as it is.
func (s *sketch) finds(what string, lines ...string) {
	s.t.Helper()
	s.tells(what, findings(lines))
}

func (s *sketch) tells(what string, want []api.Finding) {
	s.t.Helper()
	before := bytes.Clone(s.b)
	got := check.Image(s.b)
	if !slices.Equal(got, want) {
		s.t.Errorf("P19.1: %s: %s, want %s", what, few(got), few(want))
	}
	if p := plain(s.b); !slices.Equal(got, p) {
		s.t.Errorf("P19.1: %s: %s, the plain words tell %s", what, few(got), few(p))
	}
	if !bytes.Equal(s.b, before) {
		s.t.Errorf("P19.6: %s: the bytes that were handed in have changed", what)
	}
	clean := true
	for _, f := range want {
		clean = clean && f.Kind == 18
	}
	if check.Clean(got) != clean {
		s.t.Errorf("P19.2: %s: Clean is %t", what, !clean)
	}
}
