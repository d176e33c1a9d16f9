package check_test

import (
	"fmt"
	"testing"

	"bole/api"
)

// P19.1: each bit of a block below the data, and each one from N on, by itself.
func TestEachOtherBit(t *testing.T) {
	z := fresh(t, 128)
	for k := range 4096 {
		if k < 101 || k >= 128 {
			z.free(k)
			z.finds(fmt.Sprint("bit ", k, " off"), fmt.Sprint("meta ", k))
			z.take(k)
		}
	}
	z.finds("all of them on again")
}

// P19.1: the edges of the bits where the bitmap has one block that is full, two blocks, four.
func TestOtherBits(t *testing.T) {
	for _, c := range []struct{ n, data, bits int }{{128, 101, 4096}, {4095, 162, 4096}, {4096, 163, 4096}, {4097, 164, 8192}, {8192, 228, 8192}, {16383, 357, 16384}, {16384, 358, 16384}} {
		z := fresh(t, c.n)
		if z.g.Data != c.data {
			t.Fatalf("a disk of %d blocks has its data from %d on, want %d", c.n, z.g.Data, c.data)
		}
		for _, k := range []int{0, 1, 97, 98, c.data - 1, c.n, c.n + 1, c.bits - 2, c.bits - 1} {
			if k < c.data || c.n <= k && k < c.bits {
				s := z.copy()
				s.free(k)
				s.finds(fmt.Sprint(c.n, " blocks, bit ", k, " off"), fmt.Sprint("meta ", k))
			}
		}
		for _, k := range []int{c.data, c.data + 1, 4095, 4096, c.n - 2, c.n - 1} {
			if c.data <= k && k < c.n {
				s := z.copy()
				s.take(k)
				s.finds(fmt.Sprint(c.n, " blocks, bit ", k, " on"), fmt.Sprint("taken ", k))
			}
		}
		var lines []string
		for k := range c.bits {
			if k < c.data || k >= c.n {
				lines = append(lines, fmt.Sprint("meta ", k))
			}
		}
		s := z.copy()
		clear(s.b[98*size : z.g.Inodes*size])
		s.finds(fmt.Sprint(c.n, " blocks, all bits off"), lines...)
		lines = nil
		for k := c.data; k < c.n; k++ {
			lines = append(lines, fmt.Sprint("taken ", k))
		}
		for k := range c.bits {
			z.take(k)
		}
		z.finds(fmt.Sprint(c.n, " blocks, all bits on"), lines...)
	}
}

// P19.1: inode 0's record: zeros, and nothing else, not even a record that is good elsewhere.
func TestInodeZero(t *testing.T) {
	for at := range 64 {
		for _, to := range []byte{1, 2, 0x80} {
			s := fresh(t, 128)
			s.bytesOf(0)[at] = to
			s.finds(fmt.Sprintf("byte %d of inode 0's record made %d", at, to), "record 0")
		}
	}
	for _, x := range []api.Inode{plainFile(0, 0), plainFile(1, 5), folder(2, 0), folder(2, 512, 101), linkOf(1, 1, 101)} {
		s := fresh(t, 128)
		s.record(0, x)
		s.finds(fmt.Sprint("inode 0's record ", x), "record 0")
		s.take(101)
		s.finds(fmt.Sprint("inode 0's record, its block taken, ", x), "record 0", "taken 101")
	}
}

// wrongRecords are such as are none, with a block at 110.
func wrongRecords() map[string][]byte {
	l := map[string][]byte{}
	put := func(what string, x api.Inode, turn func(b []byte)) {
		x.Direct[0] = 110
		b := raw(x)
		if turn != nil {
			turn(b)
		}
		l[what] = b
	}
	for _, kind := range []int{4, 5, 9, 128, 255} {
		put(fmt.Sprint("the Kind ", kind), made(kind, 2, 512, nil), nil)
	}
	put("a free one with a number", api.Inode{}, nil)
	put("a file of 1001 Links", plainFile(1001, 512), nil)
	put("a file of 65535 Links", plainFile(65535, 512), nil)
	put("a file that is too long", plainFile(1, api.MaxFile+1), nil)
	put("a file of 2^32 - 1 bytes", plainFile(1, 1<<32-1), nil)
	put("a directory of Links 1", folder(1, 512), nil)
	put("a directory of Links 0", folder(0, 512), nil)
	put("a directory of 511 bytes", folder(2, 511), nil)
	put("a directory of 513 bytes", folder(2, 513), nil)
	put("a directory that is too long", folder(2, api.MaxFile+512), nil)
	put("a link of Links 0", linkOf(0, 5), nil)
	put("a link of 1001 Links", linkOf(1001, 5), nil)
	put("a link of no bytes", linkOf(1, 0), nil)
	put("a link of 1025 bytes", linkOf(1, 1025), nil)
	for _, at := range []int{1, 56, 60, 63} {
		put(fmt.Sprint("a byte at ", at), plainFile(1, 512), func(b []byte) { b[at] = 1 })
	}
	l["63 zeros and a one"] = append(make([]byte, 63), 1)
	return l
}

// P19.1: a record that is none: nothing in it is gone through, and no cell names an inode that is there.
func TestWrongRecords(t *testing.T) {
	for what, b := range wrongRecords() {
		for _, n := range []int{2, 7, 8, 15} {
			s := fresh(t, 128)
			copy(s.bytesOf(n), b)
			s.finds(what, fmt.Sprint("record ", n))
			s.take(110)
			s.finds(what+", its block taken", fmt.Sprint("record ", n), "taken 110")
			s.free(110)
			s.dir(1, 2, 101, has("a", n))
			s.finds(what+", named", fmt.Sprint("record ", n), "none 1 a")
		}
		s := fresh(t, 128)
		copy(s.bytesOf(1), b)
		s.finds(what+", the root", "record 1", "lost 1")
		s.lay(110, "")
		s.finds(what+", the root with a block", "record 1", "taken 110", "lost 1")
	}
}

// P19.1: records at their bounds, which are good.
func TestBoundRecords(t *testing.T) {
	s := fresh(t, 128)
	s.record(2, plainFile(0, api.MaxFile))
	s.record(3, plainFile(1000, 1))
	s.record(4, folder(65535, 0))
	s.record(5, folder(2, api.MaxFile))
	s.record(6, linkOf(1000, 1024, 110, 111))
	s.lay(110, rep("/", 512))
	s.lay(111, rep("/", 512))
	s.record(15, linkOf(1, 1, 112))
	s.lay(112, "/")
	s.finds("records at their bounds", "cell 5 0", "orphan 2", "lost 3", "links 3", "lost 4", "links 4", "lost 5", "lost 6", "links 6", "lost 15", "links 15")
}

// P19.1: wrong records, by rising inodes.
func TestManyWrongRecords(t *testing.T) {
	s := fresh(t, 1024)
	var lines []string
	for _, n := range []int{0, 2, 3, 8, 63, 64, 126, 127} {
		s.bytesOf(n)[0] = 9
		lines = append(lines, fmt.Sprint("record ", n))
	}
	s.finds("many wrong records", lines...)
	clear(s.b[s.g.Inodes*size : s.g.Data*size])
	s.finds("a table of zeros", "lost 1")
	lines = nil
	for n := range 128 {
		s.bytesOf(n)[0] = 7
		lines = append(lines, fmt.Sprint("record ", n))
	}
	s.finds("a table without a record", append(lines, "lost 1")...)
}

// P19.1: the root that is no directory: a file, a symbolic link, free, none.
func TestRoot(t *testing.T) {
	lay := func(x api.Inode) *sketch {
		s := fresh(t, 128)
		s.record(1, x)
		return s
	}
	lay(api.Inode{}).finds("a free root", "lost 1")
	lay(plainFile(0, 0)).finds("the root a file of Links 0, which is no orphan", "lost 1")
	lay(plainFile(1, 0)).finds("the root a file of Links 1", "lost 1", "links 1")
	lay(plainFile(2, 0)).finds("the root a file of Links 2", "lost 1", "links 1")
	s := lay(linkOf(1, 1, 101))
	s.lay(101, "x")
	s.finds("the root a symbolic link", "lost 1", "links 1")

	below := func(root api.Inode) *sketch {
		s := fresh(t, 128)
		s.record(1, root)
		s.cells(101, has("a", 2), has("d", 3))
		s.record(2, plainFile(1, 0))
		s.dir(3, 2, 102, has("b", 4))
		s.record(4, plainFile(1, 0))
		return s
	}
	below(folder(3, 512, 101)).finds("a root that is one")
	below(plainFile(0, 512, 101)).finds("a tree whose root is a file", "lost 1", "lost 2", "links 2", "lost 3", "lost 4")
	below(api.Inode{}).finds("a tree whose root is free", "taken 101", "lost 1", "lost 2", "links 2", "lost 3", "lost 4")
	below(folder(1, 512, 101)).finds("a tree whose root is no record", "record 1", "taken 101", "lost 1", "lost 2", "links 2", "lost 3", "lost 4")

	// A cell that names the root where that is no directory: a file's name as any other.
	for root, lines := range map[api.Inode][]string{
		plainFile(1, 0): {"lost 1", "lost 2"},
		plainFile(0, 0): {"lost 1", "links 1", "lost 2"},
		plainFile(2, 0): {"lost 1", "links 1", "lost 2"},
		{}:              {"none 2 r", "lost 1", "lost 2"},
	} {
		s := lay(root)
		s.dir(2, 2, 101, has("r", 1))
		s.finds(fmt.Sprint("a name of the root, which is ", root), lines...)
	}
}
