package ram_test

import (
	"testing"

	"bole/acts"
	"bole/adisk"
	"bole/api"
	"bole/dir"
	"bole/file"
	"bole/geo"
	"bole/inode"
	"bole/path"
	"bole/ram"
	"bole/space"
	"bole/txn"
	"bole/walk"
)

// disk is a file system on a disk: chapter 20's words over the layers below it, each call one transaction.
type disk struct {
	t   *testing.T
	g   api.Geo
	d   *adisk.Disk
	dry bool // nothing is committed: the disk stays as it is
}

// mkfs is a disk behind Mkfs; old bytes stand in its data.
func mkfs(t *testing.T, n int) *disk {
	t.Helper()
	g, e := geo.Of(n)
	if e != api.OK {
		t.Fatalf("a disk of %d blocks: %d", n, e)
	}
	b := make([]byte, n*size)
	super, _ := geo.Super(n)
	copy(b, super)
	for k := range (g.Inodes - g.Bitmap) * 4096 {
		if k < g.Data || k >= n {
			b[g.Bitmap*size+k/8] |= 1 << (k % 8)
		}
	}
	root, _ := inode.Encode(api.Inode{Kind: api.KindDir, Links: 2})
	copy(b[g.Inodes*size+64:], root)
	for i := g.Data * size; i < len(b); i++ {
		b[i] = 7
	}
	d, e := adisk.Open(b)
	if e != api.OK {
		t.Fatalf("a disk of %d bytes: %d", len(b), e)
	}
	return &disk{t: t, g: g, d: d}
}

// call carries a call out.
func (k *disk) call(do func(x *txn.Txn) api.Errno) api.Errno {
	x := txn.Begin(k.d)
	defer x.Abort()
	if e := do(x); e != api.OK {
		return e
	}
	if k.dry {
		return api.OK
	}
	return x.Commit()
}

// number carries out a call that answers a number.
func (k *disk) number(do func(x *txn.Txn) (int, api.Errno)) (n int, e api.Errno) {
	e = k.call(func(x *txn.Txn) (e api.Errno) {
		n, e = do(x)
		return e
	})
	return n, e
}

// found is the file of a call of bytes: of a path, or of a number.
func (k *disk) found(x *txn.Txn, s string, n int) (int, api.Errno) {
	if s != byNumber {
		p, e := walk.To(x, k.g, s, true)
		if e != api.OK {
			return 0, e
		}
		n = p.Inode
	}
	r, e := inode.Get(x, k.g, n)
	switch {
	case e != api.OK:
		return 0, e
	case r.Kind == api.KindFree:
		return 0, api.ErrInode
	case r.Kind == api.KindDir:
		return 0, api.ErrIsDir
	case r.Kind == api.KindLink:
		return 0, api.ErrInval
	}
	return n, api.OK
}

// byNumber stands in a path's place where there is none.
const byNumber = "by number"

func (k *disk) read(s string, n, off, size int) (data string, e api.Errno) {
	if off < 0 || size < 0 || size > api.MaxIO {
		return "", api.ErrInval
	}
	e = k.call(func(x *txn.Txn) (e api.Errno) {
		m, e := k.found(x, s, n)
		if e == api.OK {
			data, e = file.Read(x, k.g, m, off, size)
		}
		return e
	})
	return data, e
}

func (k *disk) write(s string, n, off int, data string) api.Errno {
	if off < 0 || len(data) > api.MaxIO {
		return api.ErrInval
	}
	return k.call(func(x *txn.Txn) api.Errno {
		m, e := k.found(x, s, n)
		if e != api.OK {
			return e
		}
		return file.Write(x, k.g, m, off, data)
	})
}

func (k *disk) cut(s string, n, size int) api.Errno {
	if size < 0 {
		return api.ErrInval
	}
	return k.call(func(x *txn.Txn) api.Errno {
		m, e := k.found(x, s, n)
		if e != api.OK {
			return e
		}
		return file.Cut(x, k.g, m, size)
	})
}

func (k *disk) stat(x *txn.Txn, n int) (api.Stat, api.Errno) {
	r, e := inode.Get(x, k.g, n)
	if e == api.OK && r.Kind == api.KindFree {
		e = api.ErrInode
	}
	if e != api.OK {
		return api.Stat{}, e
	}
	blocks, e := file.Blocks(x, k.g, n)
	return api.Stat{Inode: n, Kind: r.Kind, Links: r.Links, Size: r.Size, Blocks: blocks}, e
}

// tell is what the calls answer that change nothing.
func (k *disk) tell(c api.Call) (a api.Answer) {
	a.Err = k.call(func(x *txn.Txn) api.Errno {
		if c.Kind == api.CallRoom {
			blocks, e := space.Free(x, k.g)
			inodes, f := inode.Free(x, k.g)
			a.Room = api.Room{FreeBlocks: blocks, Blocks: k.g.Blocks - k.g.Data, FreeInodes: inodes, Inodes: k.g.Count - 1}
			return max(e, f)
		}
		p, e := walk.To(x, k.g, c.Path, c.Kind == api.CallStat || c.Kind == api.CallReaddir)
		if e != api.OK {
			return e
		}
		st, e := k.stat(x, p.Inode)
		switch {
		case e != api.OK:
			return e
		case c.Kind == api.CallReadlink:
			if st.Kind != api.KindLink {
				return api.ErrInval
			}
			a.Data, e = file.Read(x, k.g, p.Inode, 0, st.Size)
		case c.Kind == api.CallReaddir:
			l, e := dir.List(x, k.g, p.Inode)
			for _, cell := range l {
				a.Names = append(a.Names, cell.Name)
			}
			return e
		default:
			a.Stat = st
		}
		return e
	})
	return a
}

func (k *disk) Do(c api.Call) api.Answer {
	writes, flushes := k.d.Steps()
	a := k.do(c)
	w, f := k.d.Steps()
	w, f = w-writes, f-flushes
	most, times := ram.Bound(c)
	if w > most || f > times || a.Err != api.OK && w+f > 0 {
		k.t.Errorf("P18.5: kind %d, %d and %d bytes, has %d writes and %d flushes, its Bound is %d and %d", c.Kind, len(c.Data), len(c.Other), w, f, most, times)
	}
	if a.Err != api.OK {
		return api.Answer{Err: a.Err}
	}
	return a
}

func (k *disk) do(c api.Call) api.Answer {
	n, e := 0, api.OK
	switch c.Kind {
	case api.CallCreate:
		n, e = k.number(func(x *txn.Txn) (int, api.Errno) { return acts.Create(x, k.g, c.Path) })
	case api.CallMkdir:
		n, e = k.number(func(x *txn.Txn) (int, api.Errno) { return acts.Mkdir(x, k.g, c.Path) })
	case api.CallSymlink:
		n, e = k.number(func(x *txn.Txn) (int, api.Errno) { return acts.Symlink(x, k.g, c.Other, c.Path) })
	case api.CallRead:
		s, e := k.read(c.Path, 0, c.Offset, c.Size)
		return api.Answer{Err: e, N: len(s), Data: s}
	case api.CallWrite:
		n, e = len(c.Data), k.write(c.Path, 0, c.Offset, c.Data)
	case api.CallTruncate:
		e = k.cut(c.Path, 0, c.Size)
	case api.CallUnlink:
		n, e = k.Unlink(c.Path, false)
	case api.CallRmdir:
		e = k.call(func(x *txn.Txn) api.Errno { return acts.Rmdir(x, k.g, c.Path) })
	case api.CallRename:
		n, e = k.Rename(c.Path, c.Other, false)
	case api.CallLink:
		e = k.call(func(x *txn.Txn) api.Errno { return acts.Link(x, k.g, c.Path, c.Other) })
	case api.CallReadlink, api.CallStat, api.CallLstat, api.CallReaddir, api.CallRoom:
		return k.tell(c)
	default:
		e = api.ErrInval
	}
	return api.Answer{Err: e, N: n}
}

func (k *disk) Unlink(s string, hold bool) (int, api.Errno) {
	return k.number(func(x *txn.Txn) (int, api.Errno) { return acts.Unlink(x, k.g, s, hold) })
}

func (k *disk) Rename(old, other string, hold bool) (int, api.Errno) {
	return k.number(func(x *txn.Txn) (int, api.Errno) { return acts.Rename(x, k.g, old, other, hold) })
}

func (k *disk) Open(s string, create, excl bool) (int, api.Errno) {
	return k.number(func(x *txn.Txn) (int, api.Errno) {
		if create {
			if _, _, e := path.Make(s); e != api.OK {
				return 0, e
			}
			p, e := walk.Make(x, k.g, s)
			switch {
			case e != api.OK:
				return 0, e
			case p.Inode == 0:
				return acts.Create(x, k.g, s)
			case excl:
				return 0, api.ErrExist
			}
		}
		return k.found(x, s, 0)
	})
}

func (k *disk) ReadAt(n, off, size int) (string, api.Errno) { return k.read(byNumber, n, off, size) }

func (k *disk) WriteAt(n, off int, s string) api.Errno { return k.write(byNumber, n, off, s) }

func (k *disk) CutAt(n, size int) api.Errno { return k.cut(byNumber, n, size) }

func (k *disk) StatAt(n int) (st api.Stat, e api.Errno) {
	e = k.call(func(x *txn.Txn) (e api.Errno) {
		st, e = k.stat(x, n)
		return e
	})
	return st, e
}

func (k *disk) Release(n int) api.Errno {
	return k.call(func(x *txn.Txn) api.Errno { return acts.Release(x, k.g, n) })
}
