package osfs_test

import (
	"fmt"
	"strings"

	"bole/api"
	"bole/path"
	"bole/ram"
)

// floor is the calls below.
type floor interface {
	Open(s string, flags int) (int, api.Errno)
	Close(fd int) api.Errno
	Read(fd, n int) (string, api.Errno)
	Write(fd int, s string) (int, api.Errno)
	Seek(fd, off, whence int) (int, api.Errno)
	Do(c api.Call) api.Answer
}

// spot is an open file of a table in memory.
type spot struct{ inode, place, flags int }

// inMemory is a table of open files over the file system in memory, by chapter 21. (No number stands for the same place as another: this layer has no Dup.)
type inMemory struct {
	m    *ram.FS
	held [16]*spot
}

func (x *inMemory) open(inode int) bool {
	for _, o := range x.held {
		if o != nil && o.inode == inode {
			return true
		}
	}
	return false
}

func (x *inMemory) Open(s string, flags int) (int, api.Errno) {
	if flags < 0 || flags > 63 || flags&3 == 0 || flags&48 != 0 && flags&2 == 0 {
		return 0, api.ErrInval
	}
	for fd := range x.held {
		if x.held[fd] != nil {
			continue
		}
		n, e := x.m.Open(s, flags&4 != 0, flags&8 != 0)
		if e == api.OK && flags&16 != 0 {
			e = x.m.CutAt(n, 0)
		}
		if e != api.OK {
			return 0, e
		}
		x.held[fd] = &spot{n, 0, flags}
		return fd, api.OK
	}
	return 0, api.ErrFds
}

func (x *inMemory) Close(fd int) api.Errno {
	n := x.held[fd].inode
	x.held[fd] = nil
	if st, e := x.m.StatAt(n); x.open(n) || e != api.OK || st.Links > 0 {
		return e
	}
	return x.m.Release(n)
}

func (x *inMemory) Read(fd, n int) (string, api.Errno) {
	o := x.held[fd]
	if o.flags&1 == 0 {
		return "", api.ErrAccess
	}
	s, e := x.m.ReadAt(o.inode, o.place, n)
	o.place += len(s)
	return s, e
}

func (x *inMemory) Write(fd int, s string) (int, api.Errno) {
	o := x.held[fd]
	if o.flags&2 == 0 {
		return 0, api.ErrAccess
	}
	at := o.place
	if o.flags&32 != 0 {
		st, _ := x.m.StatAt(o.inode)
		at = st.Size
	}
	if e := x.m.WriteAt(o.inode, at, s); e != api.OK {
		return 0, e
	}
	o.place = at + len(s)
	return len(s), api.OK
}

func (x *inMemory) Seek(fd, off, whence int) (int, api.Errno) {
	o := x.held[fd]
	st, _ := x.m.StatAt(o.inode)
	if whence < 0 || whence > 2 {
		return 0, api.ErrInval
	}
	from := []int{0, o.place, st.Size}[whence]
	if off < -from || off > api.MaxFile-from {
		return 0, api.ErrInval
	}
	o.place = from + off
	return o.place, api.OK
}

func (x *inMemory) Do(c api.Call) api.Answer {
	lstat := func(s string) int { return x.m.Do(api.Call{Kind: api.CallLstat, Path: s}).Stat.Inode }
	switch c.Kind {
	case api.CallUnlink:
		_, e := x.m.Unlink(c.Path, x.open(lstat(c.Path)))
		return api.Answer{Err: e}
	case api.CallRename:
		_, e := x.m.Rename(c.Path, c.Other, x.open(lstat(c.Other)))
		return api.Answer{Err: e}
	}
	return x.m.Do(c)
}

// page is an open file on paper.
type page struct {
	fd     int
	name   string
	closed bool
}

// paper is the chapter word by word over the calls below. Its errors are their texts; "" is none.
type paper struct {
	floor
	pages []*page
}

func wrong(op, p string, e api.Errno) string {
	if e == api.OK {
		return ""
	}
	return fmt.Sprintf("%s %s: E%d", op, p, int(e))
}

func (x *paper) do(kind int, p string) api.Answer { return x.Do(api.Call{Kind: kind, Path: p}) }

func (x *paper) openFile(name string, flags int) (*page, string) {
	fd, e := x.Open(name, flags)
	if e != api.OK {
		return nil, wrong("open", name, e)
	}
	return &page{fd, name, false}, ""
}

func (x *paper) read(f *page, n int) (string, string) {
	if f.closed {
		return "", "read " + f.name + ": osfs: closed"
	}
	if n == 0 {
		return "", ""
	}
	told := ""
	for len(told) < n {
		want := n - len(told)
		if want > 16384 {
			want = 16384
		}
		s, e := x.Read(f.fd, want)
		if e != api.OK {
			return told, wrong("read", f.name, e)
		}
		told += s
		if len(s) != want {
			break
		}
	}
	if told == "" {
		return "", "osfs: end"
	}
	return told, ""
}

func (x *paper) write(f *page, p string) (int, string) {
	if f.closed {
		return 0, "write " + f.name + ": osfs: closed"
	}
	if p == "" {
		_, e := x.Write(f.fd, "")
		return 0, wrong("write", f.name, e)
	}
	taken := 0
	for left := p; left != ""; {
		part := left
		if len(left) > 16384 {
			part = left[:16384]
		}
		if _, e := x.Write(f.fd, part); e != api.OK {
			return taken, wrong("write", f.name, e)
		}
		taken += len(part)
		left = left[len(part):]
	}
	return taken, ""
}

func (x *paper) seek(f *page, off int64, whence int) (int64, string) {
	if f.closed {
		return 0, "seek " + f.name + ": osfs: closed"
	}
	n, e := x.Seek(f.fd, int(off), whence)
	return int64(n), wrong("seek", f.name, e)
}

func (x *paper) close(f *page) string {
	if f.closed {
		return "close " + f.name + ": osfs: closed"
	}
	f.closed = true
	return wrong("close", f.name, x.Close(f.fd))
}

func (x *paper) readFile(name string) (string, string) {
	fd, e := x.Open(name, 1)
	if e != api.OK {
		return "", wrong("open", name, e)
	}
	var all strings.Builder
	for {
		s, e := x.Read(fd, 16384)
		if e != api.OK {
			x.Close(fd)
			return "", wrong("read", name, e)
		}
		all.WriteString(s)
		if len(s) < 16384 {
			break
		}
	}
	if e := x.Close(fd); e != api.OK {
		return "", wrong("close", name, e)
	}
	return all.String(), ""
}

func (x *paper) writeFile(name, b string) string {
	fd, e := x.Open(name, 2+4+16)
	if e != api.OK {
		return wrong("open", name, e)
	}
	first := ""
	if b != "" {
		_, first = x.write(&page{fd: fd, name: name}, b)
	}
	if e := x.Close(fd); first == "" {
		first = wrong("close", name, e)
	}
	return first
}

func (x *paper) rename(old, other string) string {
	return wrong("rename", old+" "+other, x.Do(api.Call{Kind: api.CallRename, Path: old, Other: other}).Err)
}

func (x *paper) mkdirAll(name string) string {
	parts, e := path.Parse(name)
	if e != api.OK {
		return wrong("mkdir", name, e)
	}
	for k := 1; k <= len(parts); k++ {
		p, _ := path.Join(parts[:k])
		a := x.do(api.CallStat, p)
		if a.Err == api.OK && a.Stat.Kind == api.KindDir {
			continue
		}
		if a.Err == api.OK {
			return wrong("mkdir", p, api.ErrNotDir)
		}
		if a.Err != api.ErrNone {
			return wrong("mkdir", p, a.Err)
		}
		if e := x.do(api.CallMkdir, p).Err; e != api.OK {
			return wrong("mkdir", p, e)
		}
	}
	return ""
}

func (x *paper) remove(name string) string {
	a := x.do(api.CallLstat, name)
	if a.Err == api.OK && a.Stat.Kind == api.KindDir {
		a = x.do(api.CallRmdir, name)
	} else if a.Err == api.OK {
		a = x.do(api.CallUnlink, name)
	}
	return wrong("remove", name, a.Err)
}

// downTo is the path below another one.
func downTo(p, name string) string {
	if p[len(p)-1] == '/' {
		return p + name
	}
	return p + "/" + name
}

func (x *paper) removeAll(name string) string {
	a := x.do(api.CallLstat, name)
	if a.Err == api.ErrNone {
		return ""
	}
	if a.Err != api.OK {
		return wrong("remove", name, a.Err)
	}
	if a.Stat.Kind != api.KindDir {
		return wrong("remove", name, x.do(api.CallUnlink, name).Err)
	}
	l := x.do(api.CallReaddir, name)
	if l.Err != api.OK {
		return wrong("remove", name, l.Err)
	}
	for _, s := range l.Names {
		if w := x.removeAll(downTo(name, s)); w != "" {
			return w
		}
	}
	return wrong("remove", name, x.do(api.CallRmdir, name).Err)
}

// What fn answers, on paper.
const (
	paperSkipDir = "osfs: skip this directory"
	paperSkipAll = "osfs: skip all"
)

func (x *paper) walk(root string, fn func(p string, s api.Stat, w string) string) string {
	var answer string
	if a := x.do(api.CallLstat, root); a.Err != api.OK {
		answer = fn(root, api.Stat{}, wrong("lstat", root, a.Err))
	} else {
		answer = x.visit(root, a.Stat, fn)
	}
	if answer == paperSkipDir || answer == paperSkipAll {
		return ""
	}
	return answer
}

func (x *paper) visit(p string, s api.Stat, fn func(p string, s api.Stat, w string) string) string {
	if s.Kind != api.KindDir {
		return fn(p, s, "")
	}
	l := x.do(api.CallReaddir, p)
	if w := fn(p, s, wrong("readdir", p, l.Err)); w != "" || l.Err != api.OK {
		return w
	}
	for _, name := range l.Names {
		q := downTo(p, name)
		a := x.do(api.CallLstat, q)
		if a.Err != api.OK {
			if w := fn(q, api.Stat{}, wrong("lstat", q, a.Err)); w != "" && w != paperSkipDir {
				return w
			}
			continue
		}
		w := x.visit(q, a.Stat, fn)
		if w != "" && (w != paperSkipDir || a.Stat.Kind != api.KindDir) {
			return w
		}
	}
	return ""
}
