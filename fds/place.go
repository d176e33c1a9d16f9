package fds

import "bole/api"

// Read reads from the place on.
func (t *Table) Read(fd, n int) (string, api.Errno) {
	return with(t, fd, api.ReadFlag, func(o *openFile) (string, api.Errno) {
		s, e := t.fs.ReadAt(o.inode, o.place, n)
		o.place += len(s)
		return s, e
	})
}

// Write writes at the place.
func (t *Table) Write(fd int, s string) (int, api.Errno) {
	return with(t, fd, api.WriteFlag, func(o *openFile) (int, api.Errno) {
		at, e := t.writingPlace(o)
		if e != api.OK {
			return 0, e
		}
		if e := t.fs.WriteAt(o.inode, at, s); e != api.OK {
			return 0, e
		}
		o.place = at + len(s)
		return len(s), api.OK
	})
}

// writingPlace is the place of the writing.
func (t *Table) writingPlace(o *openFile) (int, api.Errno) {
	if o.has(api.AppendFlag) {
		return t.begin(o, api.FromEnd)
	}
	return t.begin(o, api.FromHere)
}

// Seek moves the place.
func (t *Table) Seek(fd, off, whence int) (int, api.Errno) {
	return with(t, fd, 0, func(o *openFile) (int, api.Errno) {
		from, e := t.begin(o, whence)
		if e != api.OK {
			return 0, e
		}
		// off may be any number: together with from it may be none that an int has.
		if off < -from || off > api.MaxFile-from {
			return 0, api.ErrInval
		}
		o.place = from + off
		return o.place, api.OK
	})
}

// begin is the place from which a whence counts.
func (t *Table) begin(o *openFile, whence int) (int, api.Errno) {
	switch whence {
	case api.FromStart:
		return 0, api.OK
	case api.FromHere:
		return o.place, api.OK
	case api.FromEnd:
		s, e := t.stat(o)
		return s.Size, e
	}
	return 0, api.ErrInval
}

// Cut sets the size.
func (t *Table) Cut(fd, size int) api.Errno {
	return t.change(fd, api.WriteFlag, func(o *openFile) api.Errno {
		return t.fs.CutAt(o.inode, size)
	})
}

// Stat tells what the open file is.
func (t *Table) Stat(fd int) (api.Stat, api.Errno) { return with(t, fd, 0, t.stat) }

func (t *Table) stat(o *openFile) (api.Stat, api.Errno) { return t.fs.StatAt(o.inode) }
