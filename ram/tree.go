package ram

import (
	"iter"
	"maps"
	"slices"
	"strings"

	"bole/api"
)

// The Links of what is new: a directory's have one for its name and one for itself.
const (
	newLinks    = 1
	newDirLinks = 2
)

// piece is the bytes that a file has at an index.
type piece [api.BlockSize]byte

// node is an inode of the tree. Of a directory and of a symbolic link the size says how many blocks it has.
type node struct {
	kind, links, size int
	pieces            map[int]piece  // a file's, by their indices
	names             map[string]int // a directory's, each with its inode
	text              string         // a symbolic link's
}

func newFile() *node {
	return &node{kind: api.KindFile, links: newLinks, pieces: map[int]piece{}}
}

func newDir() *node {
	return &node{kind: api.KindDir, links: newDirLinks, names: map[string]int{}}
}

// newLink keeps a text of its own: the one that is handed in may be a piece of a great one.
func newLink(text string) *node {
	return &node{kind: api.KindLink, links: newLinks, size: len(text), text: strings.Clone(text)}
}

func (x *node) copy() *node {
	y := *x
	y.pieces, y.names = maps.Clone(x.pieces), maps.Clone(x.names)
	return &y
}

// isDir may be asked of what isn't there, too.
func (x *node) isDir() bool { return x != nil && x.kind == api.KindDir }

// ceil is how many indices so many bytes have.
func ceil(size int) int { return (size + api.BlockSize - 1) / api.BlockSize }

// indices gives those at which the node has a block, each once, in any order.
func (x *node) indices() iter.Seq[int] {
	if x.kind == api.KindFile {
		return maps.Keys(x.pieces)
	}
	return func(yield func(k int) bool) {
		for k := range ceil(x.size) {
			if !yield(k) {
				return
			}
		}
	}
}

func (x *node) stat(n int) api.Stat {
	return api.Stat{Inode: n, Kind: x.kind, Links: x.links, Size: x.size, Blocks: taken(x.indices())}
}

// bytes are those from a place on, so many or up to the end.
func (x *node) bytes(off, size int) string {
	// A place far behind the end has no index that could be counted on from.
	if off >= x.size {
		return ""
	}
	row := make([]byte, min(size, x.size-off))
	for start := off / api.BlockSize * api.BlockSize; start < off+len(row); start += api.BlockSize {
		p := x.pieces[start/api.BlockSize]
		copy(row[max(start-off, 0):], p[max(off-start, 0):])
	}
	return string(row)
}

// lay puts bytes from a place on.
func (x *node) lay(c *change, off int, s string) {
	end := off + len(s)
	for start := off / api.BlockSize * api.BlockSize; start < end; start += api.BlockSize {
		p := x.pieces[start/api.BlockSize]
		copy(p[max(off-start, 0):], s[max(start-off, 0):])
		put(c, x.pieces, start/api.BlockSize, p)
	}
	set(c, &x.size, max(x.size, end))
}

// resize sets a file's size; what lies behind it is gone, so that it isn't seen when the file grows again.
func (x *node) resize(c *change, size int) {
	for _, k := range slices.Sorted(maps.Keys(x.pieces)) {
		if k >= ceil(size) {
			remove(c, x.pieces, k)
		}
	}
	if p, has := x.pieces[size/api.BlockSize]; has {
		clear(p[size%api.BlockSize:])
		put(c, x.pieces, size/api.BlockSize, p)
	}
	set(c, &x.size, size)
}

// add lets a name have an inode; a name that is new may want a block.
func (x *node) add(c *change, name string, n int) {
	put(c, x.names, name, n)
	if len(x.names) > x.size/api.BlockSize*api.PerCells {
		set(c, &x.size, x.size+api.BlockSize)
	}
}

// relink lets the node have more Links, or fewer.
func (x *node) relink(c *change, by int) { set(c, &x.links, x.links+by) }

// free is how many blocks nobody takes; below 0: how many there are too few.
func (f *FS) free() int {
	left := f.blocks
	for _, x := range f.nodes {
		if x != nil {
			left -= taken(x.indices())
		}
	}
	return left
}

func (f *FS) room() api.Room {
	r := api.Room{FreeBlocks: f.free(), Blocks: f.blocks, Inodes: len(f.nodes) - 1}
	for _, x := range f.nodes[api.Root:] {
		if x == nil {
			r.FreeInodes++
		}
	}
	return r
}

// lowest is the lowest free number; 0: there is none.
func (f *FS) lowest() int { return slices.Index(f.nodes[api.Root:], nil) + api.Root }

// get is the node of a number that may be anything.
func (f *FS) get(n int) (*node, api.Errno) {
	if n < api.Root || n >= len(f.nodes) || f.nodes[n] == nil {
		return nil, api.ErrInode
	}
	return f.nodes[n], api.OK
}

// height is how deep the deepest name below a node lies (1: right inside; 0: it has none).
func (f *FS) height(n int) int {
	deepest := 0
	for _, m := range f.nodes[n].names {
		deepest = max(deepest, 1+f.height(m))
	}
	return deepest
}

func (f *FS) drop(c *change, n int) { set(c, &f.nodes[n], nil) }

// lose takes a name off a node, which goes with the last one; but a file that is held stays: its number.
func (f *FS) lose(c *change, n int, hold bool) int {
	x := f.nodes[n]
	last := x.isDir() || x.links == 1
	switch {
	case !last:
		x.relink(c, -1)
	case x.kind == api.KindFile && hold:
		x.relink(c, -1)
		return n
	default:
		f.drop(c, n)
	}
	return 0
}
