package vfs

import (
	"slices"

	"bole/adisk"
	"bole/api"
	"bole/bits"
	"bole/geo"
	"bole/head"
	"bole/inode"
)

// The Links of a directory with no directory inside it.
const dirLinks = 2

// newBitmap is the bitmap of a disk whose data blocks are all free.
func newBitmap(g api.Geo) []byte {
	b := make([]byte, (g.Inodes-g.Bitmap)*api.BlockSize)
	for k := range (g.Inodes - g.Bitmap) * api.PerBitmap {
		bits.Put(b, k, k < g.Data || k >= g.Blocks)
	}
	return b
}

// newTable is the inode table that has the root alone.
func newTable(g api.Geo) []byte {
	b := make([]byte, (g.Data-g.Inodes)*api.BlockSize)
	root, _ := inode.Encode(api.Inode{Kind: api.KindDir, Links: dirLinks})
	block, at, _ := geo.Record(g, api.Root)
	copy(b[(block-g.Inodes)*api.BlockSize+at:], root)
	return b
}

// region is blocks that lie side by side, from a first one on.
type region struct {
	first int
	bytes []byte
}

// write writes it block by block.
func (r region) write(d *adisk.Disk) api.Errno {
	num := r.first
	for b := range slices.Chunk(r.bytes, api.BlockSize) {
		if e := d.Write(num, b); e != api.OK {
			return e
		}
		num++
	}
	return api.OK
}

// regions are all that a file system without a name has: what lies in the log's data and in the data blocks is nobody's.
func regions(g api.Geo) []region {
	super, _ := geo.Super(g.Blocks)
	return []region{
		{0, super},
		{api.LogHead, head.Empty()},
		{g.Bitmap, newBitmap(g)},
		{g.Inodes, newTable(g)},
	}
}

// Mkfs makes an empty file system.
func Mkfs(d *adisk.Disk) api.Errno {
	if d.Down() {
		return api.ErrDown
	}
	g, e := geo.Of(d.Blocks())
	if e != api.OK {
		return e
	}
	for _, r := range regions(g) {
		if e := r.write(d); e != api.OK {
			return e
		}
	}
	return d.Flush()
}
