package vfs

import (
	"bole/acts"
	"bole/api"
	"bole/inode"
	"bole/space"
	"bole/txn"
)

// kinds is what is done for each Kind of call; none for the number ahead of them.
func kinds() [api.CallRoom + 1]func(f *FS, c api.Call) (api.Answer, api.Errno) {
	return [...]func(f *FS, c api.Call) (api.Answer, api.Errno){
		api.CallCreate:   (*FS).callCreate,
		api.CallMkdir:    (*FS).callMkdir,
		api.CallRead:     (*FS).callRead,
		api.CallWrite:    (*FS).callWrite,
		api.CallTruncate: (*FS).callTruncate,
		api.CallUnlink:   (*FS).callUnlink,
		api.CallRmdir:    (*FS).callRmdir,
		api.CallRename:   (*FS).callRename,
		api.CallLink:     (*FS).callLink,
		api.CallSymlink:  (*FS).callSymlink,
		api.CallReadlink: (*FS).callReadlink,
		api.CallStat:     (*FS).callStat,
		api.CallLstat:    (*FS).callLstat,
		api.CallReaddir:  (*FS).callReaddir,
		api.CallRoom:     (*FS).callRoom,
	}
}

// Do is a call as plain data.
func (f *FS) Do(c api.Call) api.Answer {
	if c.Kind < api.CallCreate || c.Kind > api.CallRoom {
		return api.Answer{Err: api.ErrInval}
	}
	a, e := kinds()[c.Kind](f, c)
	if e != api.OK {
		return api.Answer{Err: e}
	}
	return a
}

// number is the answer that has a number alone.
func number(n int, e api.Errno) (api.Answer, api.Errno) { return api.Answer{N: n}, e }

// bare is the answer that has nothing.
func bare(e api.Errno) (api.Answer, api.Errno) { return api.Answer{}, e }

func (f *FS) callCreate(c api.Call) (api.Answer, api.Errno) {
	return number(carryOut(f, inName(c.Path), func(t *txn.Txn) (int, api.Errno) {
		return acts.Create(t, f.geo, c.Path)
	}))
}

func (f *FS) callMkdir(c api.Call) (api.Answer, api.Errno) {
	return number(carryOut(f, inName(c.Path), func(t *txn.Txn) (int, api.Errno) {
		return acts.Mkdir(t, f.geo, c.Path)
	}))
}

func (f *FS) callRead(c api.Call) (api.Answer, api.Errno) {
	s, e := f.led(c.Path, true).read(c.Offset, c.Size)
	return api.Answer{N: len(s), Data: s}, e
}

func (f *FS) callWrite(c api.Call) (api.Answer, api.Errno) {
	return number(len(c.Data), f.led(c.Path, true).write(c.Offset, c.Data))
}

func (f *FS) callTruncate(c api.Call) (api.Answer, api.Errno) {
	return bare(f.led(c.Path, true).cut(c.Size))
}

func (f *FS) callUnlink(c api.Call) (api.Answer, api.Errno) {
	_, e := f.Unlink(c.Path, false)
	return bare(e)
}

func (f *FS) callRmdir(c api.Call) (api.Answer, api.Errno) {
	return bare(f.change(inName(c.Path), func(t *txn.Txn) api.Errno {
		return acts.Rmdir(t, f.geo, c.Path)
	}))
}

func (f *FS) callRename(c api.Call) (api.Answer, api.Errno) {
	_, e := f.Rename(c.Path, c.Other, false)
	return bare(e)
}

func (f *FS) callLink(c api.Call) (api.Answer, api.Errno) {
	return bare(f.change(first(inPath(c.Path), inName(c.Other)), func(t *txn.Txn) api.Errno {
		return acts.Link(t, f.geo, c.Path, c.Other)
	}))
}

func (f *FS) callSymlink(c api.Call) (api.Answer, api.Errno) {
	return number(carryOut(f, first(inText(c.Other), inName(c.Path)), func(t *txn.Txn) (int, api.Errno) {
		return acts.Symlink(t, f.geo, c.Other, c.Path)
	}))
}

func (f *FS) callReadlink(c api.Call) (api.Answer, api.Errno) {
	s, e := f.led(c.Path, false).text()
	return api.Answer{Data: s}, e
}

func (f *FS) callStat(c api.Call) (api.Answer, api.Errno) {
	st, e := f.led(c.Path, true).stat()
	return api.Answer{Stat: st}, e
}

func (f *FS) callLstat(c api.Call) (api.Answer, api.Errno) {
	st, e := f.led(c.Path, false).stat()
	return api.Answer{Stat: st}, e
}

func (f *FS) callReaddir(c api.Call) (api.Answer, api.Errno) {
	names, e := f.led(c.Path, true).names()
	return api.Answer{Names: names}, e
}

func (f *FS) callRoom(api.Call) (api.Answer, api.Errno) {
	r, e := carryOut(f, api.OK, f.room)
	return api.Answer{Room: r}, e
}

func (f *FS) room(t *txn.Txn) (api.Room, api.Errno) {
	blocks, e := space.Free(t, f.geo)
	if e != api.OK {
		return api.Room{}, e
	}
	inodes, e := inode.Free(t, f.geo)
	return api.Room{
		FreeBlocks: blocks,
		Blocks:     f.geo.Blocks - f.geo.Data,
		FreeInodes: inodes,
		Inodes:     f.geo.Count - 1,
	}, e
}
