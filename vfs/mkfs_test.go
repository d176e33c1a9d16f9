package vfs_test

import (
	"bytes"
	"encoding/binary"
	"fmt"
	"hash/crc32"
	"slices"
	"testing"

	"bole/adisk"
	"bole/api"
	"bole/check"
	"bole/head"
	"bole/vfs"
)

// superOf is a super block that says n blocks, whether or not a file system has so many.
func superOf(n int) []byte {
	b := append([]byte("BOLEFS01"), binary.LittleEndian.AppendUint32(nil, uint32(n))...)
	b = binary.LittleEndian.AppendUint32(b, crc32.ChecksumIEEE(b))
	return append(b, make([]byte, size-len(b))...)
}

// regionsOf is where the inode table and the data begin on a disk of n blocks, by the words of D3.
func regionsOf(n int) (inodes, data int) {
	inodes = 98 + (n+4095)/4096
	return inodes, inodes + n/64
}

// made is what Mkfs leaves of an image, by the words of P20.1 and D3.
func made(image []byte) []byte {
	b := bytes.Clone(image)
	n := len(b) / size
	inodes, data := regionsOf(n)
	copy(b, superOf(n))
	clear(b[size : 2*size])
	clear(b[98*size : data*size])
	for k := range (inodes - 98) * 4096 {
		if k < data || k >= n {
			b[98*size+k/8] |= 1 << (k % 8)
		}
	}
	root := b[inodes*size+64:]
	root[0], root[2] = 2, 2
	return b
}

var lengths = []int{128, 129, 191, 192, 4095, 4096, 4097, 8192, 8193, 16383, 16384}

// P20.1: what is made, on disks of any length that held other bytes; that no other block is written, and that all lasts.
func TestMkfs(t *testing.T) {
	for _, n := range lengths {
		d := used(t, n)
		want := made(d.Image())
		if e := vfs.Mkfs(d); e != api.OK {
			t.Errorf("P20.1: Mkfs of %d blocks: %d", n, e)
		}
		if !bytes.Equal(d.Image(), want) {
			t.Errorf("P20.1: Mkfs of %d blocks has made something else", n)
		}
		_, data := regionsOf(n)
		tape := d.Tape(0)
		for _, a := range tape {
			if i := a.Block; a.Kind == api.ActWrite && i > 1 && (i < 98 || i >= data) {
				t.Errorf("P20.1: Mkfs of %d blocks writes the block %d", n, i)
			}
		}
		if last := tape[len(tape)-1]; last.Kind != api.ActFlush || len(d.Pending()) > 0 {
			t.Errorf("P20.1: behind Mkfs of %d blocks %v are pending", n, d.Pending())
		}
		if l := check.Image(d.Image()); len(l) > 0 {
			t.Errorf("P0.5: behind Mkfs of %d blocks check finds %v", n, few(l))
		}
		before := steps(d)
		b := mounted(t, d)
		if steps(d) != before {
			t.Errorf("P0.3: Mount behind Mkfs of %d blocks has steps", n)
		}
		free, inodes := n-data, n/64*8
		b.lists("/")
		b.is("/", 1, 2, 2, 0, 0)
		b.answers(room(), answerOf(free, free, inodes-2, inodes-1))
	}
}

// P20.1: lengths that no file system has. (Of 16385 blocks there is no disk at all.)
func TestMkfsRefused(t *testing.T) {
	for _, n := range []int{1, 2, 97, 98, 99, 127} {
		d := used(t, n)
		before := d.Image()
		if e := vfs.Mkfs(d); e != api.ErrGeo || steps(d) > 0 || !bytes.Equal(d.Image(), before) {
			t.Errorf("P20.1: Mkfs of %d blocks: %d, with %d steps", n, e, steps(d))
		}
		d.Crash(nil)
		if e := vfs.Mkfs(d); e != api.ErrDown {
			t.Errorf("P20.1: Mkfs of %d blocks, the power out: %d", n, e)
		}
	}
	if d, e := adisk.New(16385); d != nil || e != api.ErrSize {
		t.Errorf("P3.1: a disk of 16385 blocks: %v, %d", d, e)
	}
}

// P20.1: what was pending lasts with it, below what is made.
func TestMkfsPending(t *testing.T) {
	d := used(t, 200)
	before := d.Image()
	for _, i := range []int{0, 1, 2, 97, 98, 99, 100, 101, 102, 199, 98} {
		x := bytes.Repeat([]byte{byte(i)}, size)
		d.Write(i, x)
		copy(before[i*size:], x)
	}
	if e := vfs.Mkfs(d); e != api.OK || len(d.Pending()) > 0 {
		t.Errorf("P20.1: Mkfs of a disk with something pending: %d, pending %v", e, d.Pending())
	}
	if !bytes.Equal(d.Image(), made(before)) {
		t.Errorf("P20.1: Mkfs of a disk with something pending has made something else")
	}
	mounted(t, d).lists("/")
}

// P20.1: whatever the disk held: a file system with names and orphans, a log that is good, a log that is bad.
func TestMkfsAgain(t *testing.T) {
	b := fresh(t, 128)
	b.does(mkdir("/d"), create("/d/f"), write("/d/f", 0, rep("x", 6000)), symlink("x", "/l"), create("/o"), unlinkAs("/o", true))
	right := b.d.Image()
	good := logged(t, right, right, 98, 99, 102)
	bad := bytes.Clone(good)
	bad[2*size] ^= 1
	for what, image := range map[string][]byte{"names": right, "a good log": good, "a bad log": bad} {
		d := disk(t, image)
		if e := vfs.Mkfs(d); e != api.OK || !bytes.Equal(d.Image(), made(image)) {
			t.Errorf("P20.1: Mkfs of a disk with %s: %d", what, e)
		}
		once := d.Image()
		if e := vfs.Mkfs(d); e != api.OK || !bytes.Equal(d.Image(), once) {
			t.Errorf("P20.1: a second Mkfs of a disk with %s: %d", what, e)
		}
		b := mounted(t, d)
		b.lists("/")
		b.free(27, 14)
	}
}

// logged is an image whose log is good, with those blocks of another one in it.
func logged(t *testing.T, image, from []byte, nums ...int) []byte {
	t.Helper()
	b := bytes.Clone(image)
	var data [][]byte
	for k, i := range nums {
		block := from[i*size : (i+1)*size]
		data = append(data, block)
		copy(b[(2+k)*size:], block)
	}
	h, e := head.Make(nums, data)
	if e != api.OK {
		t.Fatalf("a header of %v: %d", nums, e)
	}
	copy(b[size:], h)
	return b
}

// P20.1: the power goes at each of its steps, or is out.
func TestMkfsCut(t *testing.T) {
	for _, n := range []int{128, 4097} {
		whole := used(t, n)
		vfs.Mkfs(whole)
		most := steps(whole)
		for at := 1; at <= most; at++ {
			if n > 128 && at > 5 && at < most-5 && at%9 > 0 {
				continue
			}
			for what, keep := range map[string][]bool{"nothing": nil, "all": slices.Repeat([]bool{true}, most), "some": slices.Repeat([]bool{true, false, false}, most)} {
				d := used(t, n)
				d.Arm(api.Crash{At: at, Keep: keep})
				if e := vfs.Mkfs(d); e != api.ErrDown || !d.Down() || steps(d) != at {
					t.Errorf("P20.1: Mkfs of %d blocks, the power going at step %d, %s kept: %d, with %d steps", n, at, what, e, steps(d))
				}
				if e := vfs.Mkfs(d); e != api.ErrDown || steps(d) != at {
					t.Errorf("P20.1: Mkfs with the power out: %d", e)
				}
				again := disk(t, d.Image())
				if e := vfs.Mkfs(again); e != api.OK || !bytes.Equal(again.Image(), whole.Image()) {
					t.Errorf("P20.1: Mkfs of what the power cut at step %d left: %d", at, e)
				}
			}
		}
		d := used(t, n)
		d.Arm(api.Crash{At: most + 1})
		if e := vfs.Mkfs(d); e != api.OK || d.Down() {
			t.Errorf("P20.1: Mkfs of %d blocks, the power going at the step behind it: %d", n, e)
		}
	}
}

// P20.8: behind Mkfs the file system has no name, and takes all that there is room for.
func TestMkfsRoom(t *testing.T) {
	for _, n := range []int{128, 129, 4097} {
		b := fresh(t, n)
		count := n / 64 * 8
		for i := 2; i < min(count, 40); i++ {
			b.makes(create(fmt.Sprint("/", i)), i)
		}
		b.right(fmt.Sprint("files on ", n, " blocks"))
	}
}
