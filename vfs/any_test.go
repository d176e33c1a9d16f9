package vfs_test

import (
	"bytes"
	"encoding/binary"
	"fmt"
	"math/rand"
	"testing"

	"bole/api"
	"bole/check"
	"bole/vfs"
)

// tried counts what became of images.
type tried struct{ refused, taken, calls int }

// try mounts an image of any bytes: it is refused without a step; or it is taken, and then calls end, and answer no error that comes of a disk's refusal or of what stands there wrong; and what they leave is right.
func (c *tried) try(t *testing.T, r *rand.Rand, what string, image []byte, calls int) {
	t.Helper()
	clean := check.Clean(check.Image(image))
	d := disk(t, image)
	f, e := vfs.Mount(d)
	switch {
	case e == api.ErrMount && f == nil && steps(d) == 0 && !clean:
		c.refused++
		return
	case e != api.OK || f == nil || !clean:
		t.Fatalf("P0.4: Mount of %s: %v, %d, with %d steps; check finds %v", what, f, e, steps(d), few(check.Image(image)))
	}
	c.taken++
	b := &box{t, d, f}
	if l := check.Image(d.Image()); len(l) > 0 {
		t.Fatalf("P0.2: behind Mount of %s check finds %v", what, few(l))
	}
	a := &drawer{r: r, names: "abcdefghi", tops: []string{""}, far: true}
	for i := range calls {
		c.calls++
		b.call(a.any(b))
		if i%8 == 7 {
			b.right(what)
		}
	}
	sight(b)
	b.right(what)
	if t.Failed() {
		t.Fatalf("P0.4: %s", what)
	}
}

// grown are right images that rows of calls have left, some with orphans, some of which were cut.
func grown(t *testing.T, r *rand.Rand, count int) [][]byte {
	var l [][]byte
	for i := range count {
		b := fresh(t, []int{128, 160, 640}[i%3])
		a := &drawer{r: r, names: "abcdefghi", tops: []string{""}}
		if i%3 == 2 {
			for k := range 32 {
				b.does(mkdir(rep("/a", k+1)))
			}
		}
		for range 40 + r.Intn(60) {
			b.call(a.change(b))
		}
		if i%2 == 0 {
			b.d.Arm(api.Crash{At: 1 + r.Intn(16), Keep: []bool{true, false, true, true}})
			for !b.d.Down() {
				b.call(a.change(b))
			}
		}
		l = append(l, b.d.Image())
	}
	return l
}

// spoiler changes images in any way.
type spoiler struct {
	*sketch
	r *rand.Rand
}

func (c *spoiler) blocks() int { return len(c.b) / size }

func (c *spoiler) count() int { return c.blocks() / 64 * 8 }

// data is a data block, most often one that is taken.
func (c *spoiler) data() int {
	_, data := regionsOf(c.blocks())
	i := 0
	for range 8 {
		i = data + c.r.Intn(c.blocks()-data)
		if c.b[98*size+i/8]>>(i%8)&1 == 1 {
			break
		}
	}
	return i
}

// number is one that may or may not be a data block's.
func (c *spoiler) number() int {
	switch c.r.Intn(8) {
	case 0:
		return 0
	case 1:
		_, data := regionsOf(c.blocks())
		return []int{1, 97, data - 1, data, c.blocks() - 1, c.blocks(), 1<<32 - 1}[c.r.Intn(7)]
	}
	return c.data()
}

// used is an inode, most often one that is there.
func (c *spoiler) used() int {
	n := 0
	for range 8 {
		n = c.r.Intn(c.count())
		if c.record(n)[0] != 0 {
			break
		}
	}
	return n
}

// field changes a part of a record.
func (c *spoiler) field() {
	n := c.used()
	b := c.record(n)
	switch c.r.Intn(7) {
	case 0:
		b[0] = byte(c.r.Intn(5))
	case 1:
		b[2] = byte(int(b[2]) + c.r.Intn(5) - 2)
	case 2:
		old := le32(b[4:])
		c.setSize(n, []int{0, 512, old + 512, old + 1, max(0, old-1), max(0, old-512), api.MaxFile}[c.r.Intn(7)])
	case 3:
		copy(b, c.record(c.used()))
	case 4:
		clear(b)
	default:
		c.setDirect(n, c.r.Intn(12), c.number())
	}
}

// spoil changes something.
func (c *spoiler) spoil() {
	at := c.data()
	switch k := c.r.Intn(100); {
	case k < 30:
		c.field()
	case k < 45:
		// As if it were a cell.
		binary.LittleEndian.PutUint32(c.block(at)[32*c.r.Intn(4):], uint32(c.used()))
	case k < 55:
		copy(c.block(at)[32*c.r.Intn(4):][:32], c.block(c.data())[32*c.r.Intn(4):])
	case k < 65:
		bit := c.r.Intn(c.blocks() + 8)
		c.b[98*size+bit/8] ^= 1 << (bit % 8)
	case k < 75:
		binary.LittleEndian.PutUint32(c.block(at)[4*c.r.Intn(128):], uint32(c.number()))
	case k < 92:
		c.block(at)[c.r.Intn(size)] = byte(c.r.Intn(256))
	default:
		c.b[c.r.Intn(len(c.b))] ^= 1 << c.r.Intn(8)
	}
}

// P0.4, P20.9: right images with a few changes, some of them in the log alone.
func TestSpoiled(t *testing.T) {
	t.Parallel()
	r := rand.New(rand.NewSource(4))
	c := &tried{}
	images := grown(t, r, 9)
	for i := range 3000 {
		before := images[r.Intn(len(images))]
		s := &spoiler{&sketch{t, bytes.Clone(before)}, r}
		for range 1 + r.Intn(3) {
			s.spoil()
		}
		image := s.b
		if nums := differ98(before, s.b); r.Intn(3) == 0 && len(nums) > 0 && len(differ(before, s.b)) == len(nums) {
			image = logged(t, before, s.b, nums...)
		}
		c.try(t, r, fmt.Sprint("a spoiled image ", i), image, 12)
	}
	if c.refused < 1000 || c.taken < 300 {
		t.Errorf("P0.4: of spoiled images %d were refused, and %d taken", c.refused, c.taken)
	}
}

// P0.4, P20.2: each byte of a small right image changed.
func TestEachByte(t *testing.T) {
	t.Parallel()
	r := rand.New(rand.NewSource(5))
	c := &tried{}
	right := grove(t)
	for at := range len(right.b) {
		// Of the log's data and of blocks that nobody has a few are enough.
		if block := at / size; (block > 2 && block < 98 || block > 112) && at%131 > 0 {
			continue
		}
		b := bytes.Clone(right.b)
		b[at] ^= 1 << r.Intn(8)
		c.try(t, r, fmt.Sprintf("the byte %d of block %d turned", at%size, at/size), b, 3)
	}
	if c.refused < 2000 || c.taken < 1000 {
		t.Errorf("P0.4: of images with a byte turned %d were refused, and %d taken", c.refused, c.taken)
	}
}

// P0.4, P20.9: any bytes at all; and any behind a right super block and an empty log.
func TestAnyBytes(t *testing.T) {
	r := rand.New(rand.NewSource(6))
	c := &tried{}
	for i := range 400 {
		n := []int{1, 2, 97, 98, 127, 128, 129, 200, 640}[r.Intn(9)]
		b := make([]byte, n*size)
		r.Read(b)
		if i%4 > 0 && n >= 128 {
			right := fresh(t, n).d.Image()
			from := []int{0, 2, 98, 99, regionsEnd(n)}[r.Intn(5)]
			copy(b, right[:from*size])
			if i%4 == 2 {
				clear(b[from*size:])
				for range 20 {
					b[from*size+r.Intn(len(b)-from*size)] = byte(r.Intn(256))
				}
			}
		}
		c.try(t, r, fmt.Sprint("any bytes ", i), b, 30)
	}
	if c.refused < 200 || c.taken < 10 {
		t.Errorf("P0.4: of any bytes %d were refused, and %d taken", c.refused, c.taken)
	}
}

func regionsEnd(n int) int {
	_, data := regionsOf(n)
	return data
}

// P0.4: images that no row of calls leaves, and that are right: a directory with a hole of free cells, blocks and inodes in any order, a file of holes alone, a name twice in two directories, a link of 1024 bytes.
func TestOddImages(t *testing.T) {
	r := rand.New(rand.NewSource(7))
	c := &tried{}
	s := grove(t)
	for range 60 {
		x := s.copy()
		// Inode 3 has the number 15 now, and the block of inode 4 the number 127.
		copy(x.record(15), x.record(3))
		clear(x.record(3))
		x.cell(1, 1, "f", 15)
		x.cell(2, 1, "f", 15)
		old := x.direct(4, 0)
		copy(x.block(127), x.block(old))
		x.setDirect(4, 0, 127)
		x.free(old)
		x.take(127)
		// A directory's block with its last cell alone; one of which all cells are free.
		copy(x.block(x.direct(2, 0))[32*15:], x.block(x.direct(2, 0))[:32])
		clear(x.block(x.direct(2, 0))[:32])
		x.setSize(1, 1024)
		x.setDirect(1, 1, 126)
		x.take(126)
		clear(x.block(126))
		// A file of the greatest size without a block.
		x.cell(1, 7, "h", 9)
		copy(x.record(9), []byte{1, 0, 1, 0})
		x.setSize(9, 8459264)
		c.try(t, r, "an odd image", x.b, 60)
	}
	if c.taken != 60 {
		t.Errorf("P0.4: %d odd images were taken", c.taken)
	}
}
