package ram

import (
	"slices"

	"bole/api"
	"bole/path"
)

// finder looks for the file of a call; it is asked behind the call's numbers.
type finder func() (*node, api.Errno)

// led finds the file to which a path leads. (No symbolic link: one at the end is followed.)
func (f *FS) led(s string) finder {
	return func() (*node, api.Errno) {
		p, e := f.to(s, true)
		switch {
		case e != api.OK:
			return nil, e
		case f.nodes[p.n].isDir():
			return nil, api.ErrIsDir
		}
		return f.nodes[p.n], api.OK
	}
}

// numbered finds the file of a number.
func (f *FS) numbered(n int) finder {
	return func() (*node, api.Errno) {
		x, e := f.get(n)
		switch {
		case e != api.OK:
			return nil, e
		case x.isDir():
			return nil, api.ErrIsDir
		case x.kind == api.KindLink:
			return nil, api.ErrInval
		}
		return x, api.OK
	}
}

func read(find finder, off, size int) (string, api.Errno) {
	if off < 0 || size < 0 || size > api.MaxIO {
		return "", api.ErrInval
	}
	x, e := find()
	if e != api.OK {
		return "", e
	}
	return x.bytes(off, size), api.OK
}

func (f *FS) write(find finder, off int, s string) api.Errno {
	if off < 0 || len(s) > api.MaxIO {
		return api.ErrInval
	}
	x, e := find()
	switch {
	case e != api.OK:
		return e
	case off > api.MaxFile-len(s):
		// Not by their sum, which no int may hold.
		return api.ErrBig
	case s == "":
		return api.OK
	}
	_, e = f.whole(func(c *change) (int, api.Errno) {
		x.lay(c, off, s)
		return 0, api.OK
	})
	return e
}

func (f *FS) cut(find finder, size int) api.Errno {
	if size < 0 {
		return api.ErrInval
	}
	x, e := find()
	switch {
	case e != api.OK:
		return e
	case size > api.MaxFile:
		return api.ErrBig
	}
	_, e = f.whole(func(c *change) (int, api.Errno) {
		x.resize(c, size)
		return 0, api.OK
	})
	return e
}

// create lets a new node have the lowest free number, and a name.
func (f *FS) create(s string, x *node) (int, api.Errno) {
	p, e := f.vacant(s)
	if e != api.OK {
		return 0, e
	}
	return f.whole(func(c *change) (int, api.Errno) {
		n := f.lowest()
		if n == 0 {
			return 0, api.ErrSpace
		}
		set(c, &f.nodes[n], x)
		f.home(p).add(c, p.name, n)
		if x.isDir() {
			f.home(p).relink(c, 1)
		}
		return n, api.OK
	})
}

// link gives a file or symbolic link one more name.
func (f *FS) link(old, other string) api.Errno {
	if _, e := path.Parse(old); e != api.OK {
		return e
	}
	// Ahead of the walk to old: texts are asked first.
	if _, _, e := path.Make(other); e != api.OK {
		return e
	}
	from, e := f.to(old, false)
	if e != api.OK {
		return e
	}
	to, e := f.make(other)
	x := f.nodes[from.n]
	switch {
	case e != api.OK:
		return e
	case x.isDir():
		return api.ErrPerm
	case to.isThere():
		return api.ErrExist
	case x.links == api.MaxLinks:
		return api.ErrLinks
	case to.isTooDeep(0):
		return api.ErrTooLong
	}
	_, e = f.whole(func(c *change) (int, api.Errno) {
		x.relink(c, 1)
		f.home(to).add(c, to.name, from.n)
		return 0, api.OK
	})
	return e
}

// rmdir takes an empty directory away.
func (f *FS) rmdir(s string) api.Errno {
	p, e := f.named(s, api.ErrBusy)
	switch {
	case e != api.OK:
		return e
	case !f.nodes[p.n].isDir():
		return api.ErrNotDir
	case len(f.nodes[p.n].names) > 0:
		return api.ErrNotEmpty
	}
	_, e = f.whole(func(c *change) (int, api.Errno) {
		remove(c, f.home(p).names, p.name)
		f.home(p).relink(c, -1)
		f.drop(c, p.n)
		return 0, api.OK
	})
	return e
}

// both goes to the two names of a Rename.
func (f *FS) both(old, other string) (from, to place, e api.Errno) {
	for _, s := range []string{old, other} {
		if _, _, e := path.Make(s); e != api.OK {
			return place{}, place{}, e
		}
	}
	from, e = f.make(old)
	switch {
	case e != api.OK:
		return place{}, place{}, e
	case !from.isThere():
		return place{}, place{}, api.ErrNone
	}
	to, e = f.make(other)
	switch {
	case e != api.OK:
		return place{}, place{}, e
	case from.isRoot() || to.isRoot():
		return place{}, place{}, api.ErrBusy
	}
	return from, to, api.OK
}

// fits asks whether what one place names may stand at another one.
func (f *FS) fits(from, to place) api.Errno {
	moved, over := f.nodes[from.n], f.nodes[to.n]
	switch {
	case over.isDir() && !moved.isDir():
		return api.ErrIsDir
	case to.isThere() && !over.isDir() && moved.isDir():
		return api.ErrNotDir
	case moved.isDir() && slices.Contains(to.chain, from.n):
		return api.ErrInval
	case over.isDir() && len(over.names) > 0:
		return api.ErrNotEmpty
	case to.isTooDeep(f.height(from.n)):
		return api.ErrTooLong
	}
	return api.OK
}

// move lets what one place names stand at another one: the orphan that this leaves.
func (f *FS) move(c *change, from, to place, hold bool) int {
	moved, over := f.nodes[from.n], f.nodes[to.n]
	source, target := f.home(from), f.home(to)
	remove(c, source.names, from.name)
	target.add(c, to.name, from.n)
	if moved.isDir() {
		source.relink(c, -1)
		target.relink(c, 1)
	}
	if over.isDir() {
		target.relink(c, -1)
	}
	if !to.isThere() {
		return 0
	}
	return f.lose(c, to.n, hold)
}
