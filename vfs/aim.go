package vfs

import (
	"bole/api"
	"bole/dir"
	"bole/file"
	"bole/geo"
	"bole/inode"
	"bole/txn"
	"bole/walk"
)

// aim is the inode that a call is about.
type aim struct {
	f     *FS
	wrong api.Errno // with its path's text, or with its number, by itself
	find  func(t *txn.Txn) (int, api.Errno)
}

// led is the inode to which a path leads; follow: through a symbolic link at its end too.
func (f *FS) led(s string, follow bool) aim {
	return aim{f, inPath(s), func(t *txn.Txn) (int, api.Errno) {
		p, e := walk.To(t, f.geo, s, follow)
		return p.Inode, e
	}}
}

// numbered is the inode of a number.
func (f *FS) numbered(n int) aim {
	_, _, wrong := geo.Record(f.geo, n)
	return aim{f, wrong, func(*txn.Txn) (int, api.Errno) { return n, api.OK }}
}

// get finds the inode: its number and its record. (Layer 12 refuses one that is free, where its bytes are asked for.)
func (a aim) get(t *txn.Txn) (int, api.Inode, api.Errno) {
	n, e := a.find(t)
	if e != api.OK {
		return 0, api.Inode{}, e
	}
	x, e := inode.Get(t, a.f.geo, n)
	return n, x, e
}

// file finds the inode, which may be neither a directory nor a symbolic link: its number. (A walk that follows at its end leads to no symbolic link.)
func (a aim) file(t *txn.Txn) (int, api.Errno) {
	n, x, e := a.get(t)
	switch {
	case e != api.OK:
		return 0, e
	case x.Kind == api.KindDir:
		return 0, api.ErrIsDir
	case x.Kind == api.KindLink:
		return 0, api.ErrInval
	}
	return n, api.OK
}

// badIf refuses numbers that no call may have.
func badIf(so bool) api.Errno {
	if so {
		return api.ErrInval
	}
	return api.OK
}

func (a aim) read(off, size int) (string, api.Errno) {
	bad := badIf(off < 0 || size < 0 || size > api.MaxIO)
	return carryOut(a.f, first(bad, a.wrong), func(t *txn.Txn) (string, api.Errno) {
		n, e := a.file(t)
		if e != api.OK {
			return "", e
		}
		return file.Read(t, a.f.geo, n, off, size)
	})
}

func (a aim) write(off int, s string) api.Errno {
	bad := badIf(off < 0 || len(s) > api.MaxIO)
	return a.f.change(first(bad, a.wrong), func(t *txn.Txn) api.Errno {
		n, e := a.file(t)
		if e != api.OK {
			return e
		}
		return file.Write(t, a.f.geo, n, off, s)
	})
}

func (a aim) cut(size int) api.Errno {
	return a.f.change(first(badIf(size < 0), a.wrong), func(t *txn.Txn) api.Errno {
		n, e := a.file(t)
		if e != api.OK {
			return e
		}
		return file.Cut(t, a.f.geo, n, size)
	})
}

func (a aim) stat() (api.Stat, api.Errno) {
	return carryOut(a.f, a.wrong, func(t *txn.Txn) (api.Stat, api.Errno) {
		n, x, e := a.get(t)
		if e != api.OK {
			return api.Stat{}, e
		}
		blocks, e := file.Blocks(t, a.f.geo, n)
		return api.Stat{Inode: n, Kind: x.Kind, Links: x.Links, Size: x.Size, Blocks: blocks}, e
	})
}

// text is that of a symbolic link.
func (a aim) text() (string, api.Errno) {
	return carryOut(a.f, a.wrong, func(t *txn.Txn) (string, api.Errno) {
		n, x, e := a.get(t)
		switch {
		case e != api.OK:
			return "", e
		case x.Kind != api.KindLink:
			return "", api.ErrInval
		}
		return file.Read(t, a.f.geo, n, 0, x.Size)
	})
}

// names are those of a directory; dir.List refuses what is none.
func (a aim) names() ([]string, api.Errno) {
	return carryOut(a.f, a.wrong, func(t *txn.Txn) ([]string, api.Errno) {
		n, e := a.find(t)
		if e != api.OK {
			return nil, e
		}
		l, e := dir.List(t, a.f.geo, n)
		names := make([]string, 0, len(l))
		for _, c := range l {
			names = append(names, c.Name)
		}
		return names, e
	})
}
