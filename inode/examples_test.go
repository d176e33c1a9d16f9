package inode_test

import (
	"bytes"
	"testing"

	"bole/adisk"
	"bole/api"
	"bole/inode"
	"bole/txn"
)

// one is example 1's record.
var one = api.Inode{Kind: api.KindFile, Links: 1, Size: 5, Direct: [10]int{101}}

// behind is these bytes and zeros up to 64.
func behind(l ...byte) []byte { return append(l, make([]byte, 64-len(l))...) }

// blank is the disk of the examples: all is zero.
func blank(t *testing.T) *world {
	t.Helper()
	d, e := adisk.New(128)
	want(t, "New", e, api.OK)
	return &world{t, laid(t, 128), d, txn.Begin(d)}
}

func TestExampleOne(t *testing.T) {
	if b, e := inode.Encode(one); e != api.OK || !bytes.Equal(b, behind(1, 0, 1, 0, 5, 0, 0, 0, 0x65)) {
		t.Errorf("example 1: %v, %d", b, e)
	}
	if b, e := inode.Encode(api.Inode{}); e != api.OK || !bytes.Equal(b, make([]byte, 64)) {
		t.Errorf("example 1: %v, %d", b, e)
	}
	b, e := inode.Encode(api.Inode{Kind: api.KindDir, Links: 2, Size: 512, Two: 4294967295})
	if e != api.OK || !bytes.HasSuffix(b, []byte{0, 255, 255, 255, 255, 0, 0, 0, 0, 0, 0, 0, 0}) {
		t.Errorf("example 1: %v, %d", b, e)
	}
}

func TestExampleTwo(t *testing.T) {
	for _, x := range []api.Inode{
		{Kind: 4}, {Kind: -1},
		{Kind: api.KindFile, Links: 1001}, {Kind: api.KindFile, Links: -1}, {Kind: api.KindFile, Size: api.MaxFile + 1},
		{Kind: api.KindFile, Direct: [10]int{9: -1}}, {Kind: api.KindFile, One: 4294967296},
		{Kind: api.KindDir, Links: 1}, {Kind: api.KindDir, Links: 2, Size: 511},
		{Kind: api.KindLink, Size: 1}, {Kind: api.KindLink, Links: 1}, {Kind: api.KindLink, Links: 1, Size: 1025},
		{Kind: api.KindFree, Links: 1},
	} {
		wantNoBytes(t, x)
	}
	wantBytes(t, api.Inode{Kind: api.KindFile})
}

func TestExampleThree(t *testing.T) {
	good := behind(1, 0, 1, 0, 5, 0, 0, 0, 0x65)
	wantNoRecord(t, good[:63], api.ErrSize)
	for _, at := range []int{1, 63} {
		b := bytes.Clone(good)
		b[at] = 1
		wantNoRecord(t, b, api.ErrRecord)
	}
	wantRecord(t, good, one)
	wantRecord(t, make([]byte, 64), api.Inode{})
	wantNoRecord(t, behind(0, 1), api.ErrRecord)
}

// Examples 4 to 6: one transaction.
func TestExamplesFourToSix(t *testing.T) {
	w := blank(t)
	for _, n := range []int{0, 16, -1} {
		w.noGet("example 4", n, api.ErrInode)
	}
	w.get("example 4", 1, api.Inode{})
	w.put("example 4", 0, one, api.ErrInode)
	w.put("example 4", 1, api.Inode{Kind: 4}, api.ErrRecord)
	w.put("example 4", 16, api.Inode{Kind: 4}, api.ErrInode)
	w.put("example 4", 8, one, api.OK)
	if b := w.read(100); !bytes.Equal(b, append(plainBytes(one), make([]byte, 448)...)) {
		t.Errorf("example 4: block 100 is %v", b)
	}
	w.get("example 4", 8, one)
	w.free("example 4", 14)
	w.written("example 4", 100)

	for _, n := range []int{1, 2, 3, 4, 5, 6, 7, 9, 10, 11, 12, 13, 14, 15} {
		w.take("example 5", one, n)
	}
	w.noTake("example 5", one, api.ErrSpace)
	w.noTake("example 5", api.Inode{}, api.ErrRecord)

	w.x.Abort()
	w.noGet("example 6", 1, api.ErrOver)
	w.put("example 6", 1, one, api.ErrOver)
	w.noTake("example 6", one, api.ErrOver)
	w.noFree("example 6", api.ErrOver)
	w.noGet("example 6", 0, api.ErrInode)
}

// Example 5: a byte of the table that makes a record none.
func TestExampleFiveWithOddBytes(t *testing.T) {
	w := blank(t)
	b := make([]byte, size)
	b[64] = 9
	w.write(99, b)
	w.noGet("example 5", 1, api.ErrRecord)
	w.noTake("example 5", one, api.ErrRecord)
	w.noFree("example 5", api.ErrRecord)

	w = blank(t)
	b = make([]byte, size)
	b[7*64] = 9
	w.write(100, b)
	w.put("example 5", 1, one, api.OK)
	w.take("example 5", one, 2)
	w.noFree("example 5", api.ErrRecord)
}
