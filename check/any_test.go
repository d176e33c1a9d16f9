package check_test

import (
	"bytes"
	"encoding/binary"
	"fmt"
	"math/rand"
	"testing"

	"bole/api"
	"bole/check"
)

// spoiler changes right images in any way.
type spoiler struct {
	*sketch
	r     *rand.Rand
	inUse []int // inodes that are there
	dirs  []int // blocks of cells
	had   []int // blocks that an inode has
}

// over is a spoiler of a copy of a right image.
func over(s *sketch, r *rand.Rand) *spoiler {
	c := &spoiler{sketch: s.copy(), r: r}
	h := &shuffle{c.sketch, r}
	for n := range c.g.Count {
		if c.bytesOf(n)[0] != 0 {
			c.inUse = append(c.inUse, n)
		}
		h.eachNumber(n, func(at []byte, _ int) { c.had = append(c.had, le32(at)) })
		h.eachBlock(n, func(num int) { c.dirs = append(c.dirs, num) })
	}
	return c
}

func (c *spoiler) one(l []int) int { return l[c.r.Intn(len(l))] }

// number is one that may or may not be a data block's.
func (c *spoiler) number() int {
	switch c.r.Intn(6) {
	case 0:
		return 0
	case 1:
		return c.one(noData(c.g))
	case 2:
		return c.one([]int{c.g.Data, c.g.Blocks - 1})
	case 3:
		return c.g.Data + c.r.Intn(c.g.Blocks-c.g.Data)
	}
	return c.one(c.had)
}

// inode is a number that a cell may name.
func (c *spoiler) inode() int {
	switch c.r.Intn(8) {
	case 0:
		return c.one([]int{0, 1, c.g.Count - 1, c.g.Count, 1<<32 - 1})
	case 1:
		return c.r.Intn(c.g.Count)
	}
	return c.one(c.inUse)
}

// field changes a part of a record.
func (c *spoiler) field() {
	b := c.bytesOf(c.one(c.inUse))
	switch c.r.Intn(7) {
	case 0:
		b[0] = byte(c.r.Intn(5))
	case 1:
		b[2] = byte(int(b[2]) + c.r.Intn(5) - 2)
	case 2:
		size := le32(b[4:])
		binary.LittleEndian.PutUint32(b[4:], uint32(c.one([]int{0, 512, size + 512, size + 1, max(0, size-1), max(0, size-512), api.MaxFile})))
	case 3:
		copy(b, c.bytesOf(c.r.Intn(c.g.Count)))
	case 4:
		clear(b)
	default:
		binary.LittleEndian.PutUint32(b[8+4*c.r.Intn(12):], uint32(c.number()))
	}
}

// cell changes one of a directory.
func (c *spoiler) cell() {
	block := c.one(c.dirs)
	b := c.b[block*size+32*c.r.Intn(4):][:32]
	switch c.r.Intn(6) {
	case 0:
		b[c.r.Intn(32)] ^= 1 << c.r.Intn(8)
	case 1:
		clear(b)
	case 2:
		copy(b, c.b[c.one(c.dirs)*size+32*c.r.Intn(4):][:32])
	case 3:
		clear(b)
		b[4], b[5] = 1, "abcdefghi"[c.r.Intn(9)]
		fallthrough
	default:
		binary.LittleEndian.PutUint32(b, uint32(c.inode()))
	}
}

// fill gives a directory without a block one, with a name in it.
func (c *spoiler) fill() {
	var l []int
	for _, n := range c.inUse {
		if b := c.bytesOf(n); b[0] == api.KindDir && le32(b[4:]) == 0 {
			l = append(l, n)
		}
	}
	if len(l) == 0 {
		return
	}
	n, block := c.one(l), c.g.Data+c.r.Intn(c.g.Blocks-c.g.Data)
	c.record(n, folder(2, 512, block))
	c.cells(block, has("y", c.inode()), has("z", c.inode()))
}

// spoil changes something.
func (c *spoiler) spoil() {
	switch k := c.r.Intn(100); {
	case k < 30:
		c.field()
	case k < 40:
		c.fill()
	case k < 70 && len(c.dirs) > 0:
		c.cell()
	case k < 78:
		bit := c.r.Intn(4096 * (c.g.Inodes - c.g.Bitmap))
		if c.r.Intn(3) > 0 {
			bit = c.r.Intn(c.g.Blocks)
		}
		c.b[98*size+bit/8] ^= 1 << (bit % 8)
	case k < 86 && len(c.had) > 0:
		c.word(c.one(c.had), 4*c.r.Intn(128), c.number())
	case k < 92 && len(c.had) > 0:
		c.turn(c.one(c.had), c.r.Intn(size), byte(c.r.Intn(256)))
	case k < 96:
		c.turn(c.g.Inodes, c.r.Intn(size*(c.g.Data-c.g.Inodes)), byte(c.r.Intn(256)))
	default:
		c.turn(c.r.Intn(c.g.Blocks), c.r.Intn(size), byte(c.r.Intn(256)))
	}
}

// logged brings what the spoiler has changed into the log of the image as it was; if that may be.
func (c *spoiler) logged(before *sketch) *sketch {
	s := before.copy()
	var nums []int
	var blocks [][]byte
	for i := range c.g.Blocks {
		if bytes.Equal(c.block(i), before.block(i)) {
			continue
		}
		if i < 98 {
			return c.sketch
		}
		nums, blocks = append(nums, i), append(blocks, c.block(i))
	}
	if len(nums) > 0 && len(nums) <= 96 {
		s.log(nums, blocks)
	}
	return s
}

// grown are right images that rows of calls have left.
func grown(t *testing.T, r *rand.Rand, count int) []*sketch {
	var l []*sketch
	for i := range count {
		k := opened(t, fresh(t, []int{128, 160, 640}[i%3]).b)
		a := &row{r: r, names: "abcdefghi"}
		a.grow(k, 40+r.Intn(40), func(string, []byte, act) {})
		if i%3 == 2 {
			stemmed(k)
		}
		l = append(l, &sketch{t, k.g, k.d.Image()})
	}
	return l
}

// told counts findings by their Kinds.
func told(count map[int]int, l []api.Finding) {
	for _, f := range l {
		count[f.Kind]++
	}
}

// enough holds that each Kind was told often.
func enough(t *testing.T, count map[int]int, least int, kinds ...int) {
	t.Helper()
	for _, kind := range kinds {
		if count[kind] < least {
			t.Errorf("the Kind %d was told %d times only", kind, count[kind])
		}
	}
}

// P19.1, P19.5, P19.6: right images with a few changes, some of them in the log: all is told that the plain words tell; and what is clean still is sound.
func TestSpoiled(t *testing.T) {
	r := rand.New(rand.NewSource(19))
	count := map[int]int{}
	clean, images := 0, grown(t, r, 12)
	for i := range 2500 {
		before := images[r.Intn(len(images))]
		c := over(before, r)
		for range 1 + r.Intn(4) {
			c.spoil()
		}
		s := c.sketch
		if r.Intn(3) == 0 {
			s = c.logged(before)
		}
		if r.Intn(100) == 0 {
			s.turn(r.Intn(6), r.Intn(size), byte(r.Intn(256)))
		}
		s.tells(fmt.Sprint("spoiled image ", i), plain(s.b))
		l := check.Image(s.b)
		told(count, l)
		if check.Clean(l) {
			if clean++; clean%6 == 0 {
				sound(t, r, fmt.Sprint("spoiled image ", i), s.b)
			}
		}
		if t.Failed() {
			return
		}
	}
	enough(t, count, 3, 1, 2)
	enough(t, count, 25, 3, 4, 5, 6, 7, 8, 9, 10, 11, 12, 13, 14, 15, 16, 17, 18)
	if clean < 100 {
		t.Errorf("%d images were clean", clean)
	}
}

// tangle draws an image of any records, tables, cells and bits, of which many lead to one another.
func tangle(t *testing.T, r *rand.Rand, n int) *sketch {
	s := fresh(t, n)
	few := 2 + r.Intn(30)
	number := func() int {
		switch r.Intn(12) {
		case 0:
			return r.Intn(n + 8)
		case 1:
			return int(r.Uint32())
		}
		return s.g.Data + r.Intn(min(few, n-s.g.Data))
	}
	for block := s.g.Data; block < min(s.g.Data+few, n); block++ {
		s.lay(block, "")
		switch r.Intn(5) {
		case 0, 1:
			for range r.Intn(12) {
				s.word(block, 4*r.Intn(128), number())
			}
		case 2, 3:
			var l []api.Entry
			for range r.Intn(12) {
				l = append(l, has("abcdefgh"[r.Intn(8):][:1], r.Intn(12)))
			}
			s.cells(block, l...)
		}
		if r.Intn(2) == 0 {
			s.turn(block, r.Intn(size), byte(r.Intn(256)))
		}
	}
	for inode := range min(s.g.Count, 12) {
		x := made(1+r.Intn(3), 2+r.Intn(3), 512*r.Intn(5), nil)
		if x.Kind != 2 && r.Intn(2) == 0 {
			x.Size += r.Intn(512)
		}
		for k := range x.Direct {
			if k < 3 || r.Intn(8) == 0 {
				x.Direct[k] = number()
			}
		}
		if r.Intn(3) == 0 {
			x.One = number()
		}
		if r.Intn(3) == 0 {
			x.Two = number()
		}
		if inode != 1 && r.Intn(3) == 0 || inode == 0 {
			x = api.Inode{}
		}
		if inode == 1 {
			x.Kind, x.Size = 2, 512*r.Intn(4)
		}
		s.record(inode, x)
	}
	return s
}

// P19.1, P19.6: images in which everything leads to everything.
func TestTangles(t *testing.T) {
	r := rand.New(rand.NewSource(6))
	count := map[int]int{}
	for i := range 3000 {
		s := tangle(t, r, 128+r.Intn(100))
		s.tells(fmt.Sprint("tangle ", i), plain(s.b))
		told(count, check.Image(s.b))
		if t.Failed() {
			return
		}
	}
	enough(t, count, 100, 4, 5, 6, 7, 9, 10, 11, 12, 13, 14, 15, 17)
}

// P19.6: any bytes at all, behind a right super block and an empty log: every call ends, and tells what the plain words tell.
func TestAnyBytes(t *testing.T) {
	r := rand.New(rand.NewSource(3))
	for i := range 300 {
		n := []int{128, 129, 200, 640}[r.Intn(4)]
		s := fresh(t, n)
		from, to := r.Intn(n-2)+2, n
		if r.Intn(2) == 0 {
			from, to = s.g.Inodes, s.g.Data
		}
		for at := from * size; at < to*size; at++ {
			s.b[at] = byte(r.Intn(256))
			if i%3 == 1 && r.Intn(4) > 0 {
				s.b[at] = 0
			}
			if i%3 == 2 {
				s.b[at] = byte(i)
			}
		}
		s.tells(fmt.Sprint("any bytes ", i), plain(s.b))
	}
	for range 300 {
		b := make([]byte, r.Intn(140*size))
		r.Read(b)
		ofBytes(t, b).tells("any bytes", []api.Finding{{Kind: api.FindSuper}})
	}
}

// P19.1: each byte of a small right image changed, from the bitmap on.
func TestEachByte(t *testing.T) {
	s := fresh(t, 128)
	s.dir(1, 3, 101, has("a", 2), has("d", 3), has("s", 4))
	x := plainFile(1, 5130, 102)
	x.One = 103
	s.record(2, x)
	s.lay(102, rep("x", 512))
	s.table(103, map[int]int{0: 104})
	s.lay(104, rep("y", 10))
	s.dir(3, 2, 105, has("b", 2))
	s.record(2, func() api.Inode { x.Links = 2; return x }())
	s.record(4, linkOf(1, 3, 106))
	s.lay(106, "d/b")
	s.finds("a small tree")
	clean := 0
	for at := 98 * size; at < 107*size; at++ {
		for _, by := range []byte{1, 0x80} {
			s.b[at] ^= by
			want := plain(s.b)
			s.tells(fmt.Sprintf("byte %d of block %d turned by %d", at%size, at/size, by), want)
			if len(want) == 0 {
				clean++
			}
			s.b[at] ^= by
		}
	}
	// The bytes of the file may be any.
	if clean < 2*(512+10) {
		t.Errorf("%d changes leave a clean image", clean)
	}
}
