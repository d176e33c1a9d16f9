package ram_test

import (
	"maps"
	"slices"
	"strings"

	"bole/api"
	"bole/geo"
	"bole/path"
)

// thing is an inode of the plain tree: a file's bytes are one text, and which indices have a piece stands beside it.
type thing struct {
	kind, links int
	bytes       string // of a file; of a symbolic link its text
	pieces      map[int]bool
	names       map[string]int
	blocks      int // of a directory
}

// plain is the model as the chapter's words say it, with no care for time: a call is made on a copy, which takes the tree's place if the call isn't refused.
type plain struct {
	g      api.Geo
	things map[int]*thing
}

func newPlain(n int) *plain {
	g, _ := geo.Of(n)
	return &plain{g, map[int]*thing{1: {kind: 2, links: 2, names: map[string]int{}}}}
}

func (m *plain) copy() *plain {
	c := &plain{m.g, map[int]*thing{}}
	for n, o := range m.things {
		p := *o
		p.pieces, p.names = maps.Clone(o.pieces), maps.Clone(o.names)
		c.things[n] = &p
	}
	return c
}

func (o *thing) size() int {
	if o.kind == 2 {
		return 512 * o.blocks
	}
	return len(o.bytes)
}

// indices are those at which the thing has a block.
func (o *thing) indices() []int {
	if o.kind == 1 {
		return slices.Collect(maps.Keys(o.pieces))
	}
	return upTo((o.size() + 511) / 512)
}

func (m *plain) left() int {
	n := m.g.Blocks - m.g.Data
	for _, o := range m.things {
		n -= plainTakes(o.indices())
	}
	return n
}

// try makes a call on a copy; one that leaves a tree for which there is no room is refused.
func (m *plain) try(do func(c *plain) (int, api.Errno)) (int, api.Errno) {
	c := m.copy()
	n, e := do(c)
	switch {
	case e != api.OK:
		return 0, e
	case c.left() < 0:
		return 0, api.ErrSpace
	}
	m.things = c.things
	return n, api.OK
}

// spot is where a name stands, or is to stand.
type spot struct {
	row  []int
	name string
	n    int
}

func (p spot) in() int { return p.row[len(p.row)-1] }

// walk goes over components from the root on; more: another one stands behind them.
func (m *plain) walk(left []string, more, follow bool) (spot, api.Errno) {
	row, followed := []int{1}, 0
	for len(left) > 0 {
		c := left[0]
		left = left[1:]
		if c == ".." {
			row = row[:max(1, len(row)-1)]
			continue
		}
		n, ok := m.things[row[len(row)-1]].names[c]
		if !ok {
			return spot{}, api.ErrNone
		}
		behind := more || len(left) > 0
		o := m.things[n]
		switch {
		case o.kind == 3 && (behind || follow):
			if followed++; followed > 8 {
				return spot{}, api.ErrLoop
			}
			parts, top, _ := path.Text(o.bytes)
			if top {
				row = []int{1}
			}
			left = slices.Concat(parts, left)
		case !behind:
			return spot{row, c, n}, api.OK
		case o.kind == 2:
			row = append(slices.Clone(row), n)
		default:
			return spot{}, api.ErrNotDir
		}
	}
	return spot{row, "", row[len(row)-1]}, api.OK
}

func (m *plain) to(s string, follow bool) (spot, api.Errno) {
	parts, e := path.Parse(s)
	if e != api.OK {
		return spot{}, e
	}
	return m.walk(parts, false, follow)
}

func (m *plain) make(s string) (spot, api.Errno) {
	ahead, last, e := path.Make(s)
	if e != api.OK {
		return spot{}, e
	}
	if last == "" {
		return spot{[]int{1}, "", 1}, api.OK
	}
	p, e := m.walk(ahead, true, false)
	if e != api.OK {
		return spot{}, e
	}
	return spot{p.row, last, m.things[p.n].names[last]}, api.OK
}

// name gives an inode a name; sixteen have room in each block.
func (m *plain) name(p spot, n int) {
	d := m.things[p.in()]
	d.names[p.name] = n
	d.blocks = max(d.blocks, (len(d.names)+15)/16)
}

func (m *plain) new(s string, o *thing) (int, api.Errno) {
	p, e := m.make(s)
	switch {
	case e != api.OK:
		return 0, e
	case p.n != 0:
		return 0, api.ErrExist
	case len(p.row) > 32:
		return 0, api.ErrTooLong
	}
	n := 2
	for m.things[n] != nil {
		n++
	}
	if n > m.g.Count-1 {
		return 0, api.ErrSpace
	}
	m.things[n] = o
	m.name(p, n)
	if o.kind == 2 {
		m.things[p.in()].links++
	}
	return n, api.OK
}

func (m *plain) link(old, other string) (int, api.Errno) {
	if _, e := path.Parse(old); e != api.OK {
		return 0, e
	}
	if _, _, e := path.Make(other); e != api.OK {
		return 0, e
	}
	p, e := m.to(old, false)
	if e != api.OK {
		return 0, e
	}
	q, e := m.make(other)
	o := m.things[p.n]
	switch {
	case e != api.OK:
		return 0, e
	case o.kind == 2:
		return 0, api.ErrPerm
	case q.n != 0:
		return 0, api.ErrExist
	case o.links == 1000:
		return 0, api.ErrLinks
	case len(q.row) > 32:
		return 0, api.ErrTooLong
	}
	o.links++
	m.name(q, p.n)
	return 0, api.OK
}

// lose takes a name off an inode: its number, if it is an orphan then.
func (m *plain) lose(n int, hold bool) int {
	o := m.things[n]
	if o.kind != 2 {
		o.links--
		if o.links > 0 {
			return 0
		}
		if o.kind == 1 && hold {
			return n
		}
	}
	delete(m.things, n)
	return 0
}

func (m *plain) unlink(s string, hold bool) (int, api.Errno) {
	p, e := m.make(s)
	switch {
	case e != api.OK:
		return 0, e
	case p.n == 1:
		return 0, api.ErrIsDir
	case p.n == 0:
		return 0, api.ErrNone
	case m.things[p.n].kind == 2:
		return 0, api.ErrIsDir
	}
	delete(m.things[p.in()].names, p.name)
	return m.lose(p.n, hold), api.OK
}

func (m *plain) rmdir(s string) (int, api.Errno) {
	p, e := m.make(s)
	switch {
	case e != api.OK:
		return 0, e
	case p.n == 1:
		return 0, api.ErrBusy
	case p.n == 0:
		return 0, api.ErrNone
	case m.things[p.n].kind != 2:
		return 0, api.ErrNotDir
	case len(m.things[p.n].names) > 0:
		return 0, api.ErrNotEmpty
	}
	delete(m.things[p.in()].names, p.name)
	m.things[p.in()].links--
	delete(m.things, p.n)
	return 0, api.OK
}

func (m *plain) height(n int) int {
	h := 0
	for _, k := range m.things[n].names {
		h = max(h, 1+m.height(k))
	}
	return h
}

func (m *plain) rename(old, other string, hold bool) (int, api.Errno) {
	for _, s := range []string{old, other} {
		if _, _, e := path.Make(s); e != api.OK {
			return 0, e
		}
	}
	p, e := m.make(old)
	if e == api.OK && p.n == 0 {
		e = api.ErrNone
	}
	if e != api.OK {
		return 0, e
	}
	q, e := m.make(other)
	switch {
	case e != api.OK:
		return 0, e
	case p.n == 1 || q.n == 1:
		return 0, api.ErrBusy
	case p.n == q.n:
		return 0, api.OK
	}
	isDir := m.things[p.n].kind == 2
	overDir := q.n != 0 && m.things[q.n].kind == 2
	switch {
	case overDir && !isDir:
		return 0, api.ErrIsDir
	case q.n != 0 && !overDir && isDir:
		return 0, api.ErrNotDir
	case isDir && slices.Contains(q.row, p.n):
		return 0, api.ErrInval
	case overDir && len(m.things[q.n].names) > 0:
		return 0, api.ErrNotEmpty
	case len(q.row)+m.height(p.n) > 32:
		return 0, api.ErrTooLong
	}
	delete(m.things[p.in()].names, p.name)
	m.name(q, p.n)
	lost := 0
	if q.n != 0 {
		lost = m.lose(q.n, hold)
	}
	for n, o := range m.things {
		if o.kind == 2 {
			m.things[n].links = m.linksOf(n)
		}
	}
	return lost, api.OK
}

// linksOf is 2 and one for each directory right inside.
func (m *plain) linksOf(n int) int {
	links := 2
	for _, k := range m.things[n].names {
		if m.things[k].kind == 2 {
			links++
		}
	}
	return links
}

// file is that of a path or of a number, for calls of bytes.
func (m *plain) file(s string, n int) (*thing, api.Errno) {
	if n == -1 {
		p, e := m.to(s, true)
		if e != api.OK {
			return nil, e
		}
		n = p.n
	}
	o := m.things[n]
	switch {
	case o == nil:
		return nil, api.ErrInode
	case o.kind == 2:
		return nil, api.ErrIsDir
	case o.kind == 3:
		return nil, api.ErrInval
	}
	return o, api.OK
}

func (m *plain) read(s string, n, off, size int) (string, api.Errno) {
	if off < 0 || size < 0 || size > 16384 {
		return "", api.ErrInval
	}
	o, e := m.file(s, n)
	if e != api.OK {
		return "", e
	}
	first := min(off, len(o.bytes))
	return o.bytes[first:min(first+size, len(o.bytes))], api.OK
}

// pad is a text made so long with zeros behind it, or cut.
func pad(s string, n int) string {
	if n < len(s) {
		return s[:n]
	}
	return s + rep("\x00", n-len(s))
}

func (m *plain) write(s string, n, off int, data string) (int, api.Errno) {
	if off < 0 || len(data) > 16384 {
		return 0, api.ErrInval
	}
	o, e := m.file(s, n)
	switch {
	case e != api.OK:
		return 0, e
	case off > 8459264 || off+len(data) > 8459264:
		return 0, api.ErrBig
	case data == "":
		return 0, api.OK
	}
	long := pad(o.bytes, max(len(o.bytes), off+len(data)))
	o.bytes = long[:off] + data + long[off+len(data):]
	for i := range data {
		o.pieces[(off+i)/512] = true
	}
	return len(data), api.OK
}

func (m *plain) cut(s string, n, size int) (int, api.Errno) {
	if size < 0 {
		return 0, api.ErrInval
	}
	o, e := m.file(s, n)
	switch {
	case e != api.OK:
		return 0, e
	case size > 8459264:
		return 0, api.ErrBig
	}
	o.bytes = pad(o.bytes, size)
	maps.DeleteFunc(o.pieces, func(k int, _ bool) bool { return k*512 >= size })
	return 0, api.OK
}

func (m *plain) stat(n int) api.Stat {
	o := m.things[n]
	return api.Stat{Inode: n, Kind: o.kind, Links: o.links, Size: o.size(), Blocks: plainTakes(o.indices())}
}

// tell is what the calls answer that change nothing.
func (m *plain) tell(c api.Call) api.Answer {
	if c.Kind == api.CallRoom {
		return api.Answer{Room: api.Room{FreeBlocks: m.left(), Blocks: m.g.Blocks - m.g.Data, FreeInodes: m.g.Count - 1 - len(m.things), Inodes: m.g.Count - 1}}
	}
	p, e := m.to(c.Path, c.Kind == api.CallStat || c.Kind == api.CallReaddir)
	if e != api.OK {
		return api.Answer{Err: e}
	}
	o := m.things[p.n]
	switch {
	case c.Kind == api.CallReadlink && o.kind != 3:
		return api.Answer{Err: api.ErrInval}
	case c.Kind == api.CallReadlink:
		return api.Answer{Data: o.bytes}
	case c.Kind == api.CallReaddir && o.kind != 2:
		return api.Answer{Err: api.ErrNotDir}
	case c.Kind == api.CallReaddir:
		return api.Answer{Names: slices.Sorted(maps.Keys(o.names))}
	}
	return api.Answer{Stat: m.stat(p.n)}
}

func (m *plain) Do(c api.Call) api.Answer {
	n, e := 0, api.OK
	switch c.Kind {
	case api.CallCreate:
		n, e = m.try(func(m *plain) (int, api.Errno) {
			return m.new(c.Path, &thing{kind: 1, links: 1, pieces: map[int]bool{}})
		})
	case api.CallMkdir:
		n, e = m.try(func(m *plain) (int, api.Errno) {
			return m.new(c.Path, &thing{kind: 2, links: 2, names: map[string]int{}})
		})
	case api.CallSymlink:
		if _, _, e := path.Text(c.Other); e != api.OK {
			return api.Answer{Err: e}
		}
		n, e = m.try(func(m *plain) (int, api.Errno) {
			return m.new(c.Path, &thing{kind: 3, links: 1, bytes: strings.Clone(c.Other)})
		})
	case api.CallRead:
		s, e := m.read(c.Path, -1, c.Offset, c.Size)
		return api.Answer{Err: e, N: len(s), Data: s}
	case api.CallWrite:
		n, e = m.try(func(m *plain) (int, api.Errno) { return m.write(c.Path, -1, c.Offset, c.Data) })
	case api.CallTruncate:
		n, e = m.try(func(m *plain) (int, api.Errno) { return m.cut(c.Path, -1, c.Size) })
	case api.CallUnlink:
		n, e = m.Unlink(c.Path, false)
	case api.CallRmdir:
		n, e = m.try(func(m *plain) (int, api.Errno) { return m.rmdir(c.Path) })
	case api.CallRename:
		n, e = m.Rename(c.Path, c.Other, false)
	case api.CallLink:
		n, e = m.try(func(m *plain) (int, api.Errno) { return m.link(c.Path, c.Other) })
	case api.CallReadlink, api.CallStat, api.CallLstat, api.CallReaddir, api.CallRoom:
		return m.tell(c)
	default:
		e = api.ErrInval
	}
	return api.Answer{Err: e, N: n}
}

func (m *plain) Unlink(s string, hold bool) (int, api.Errno) {
	return m.try(func(m *plain) (int, api.Errno) { return m.unlink(s, hold) })
}

func (m *plain) Rename(old, other string, hold bool) (int, api.Errno) {
	return m.try(func(m *plain) (int, api.Errno) { return m.rename(old, other, hold) })
}

func (m *plain) Open(s string, create, excl bool) (int, api.Errno) {
	if create {
		p, e := m.make(s)
		switch {
		case e != api.OK:
			return 0, e
		case p.n == 0:
			a := m.Do(api.Call{Kind: api.CallCreate, Path: s})
			return a.N, a.Err
		case excl:
			return 0, api.ErrExist
		}
	}
	p, e := m.to(s, true)
	switch {
	case e != api.OK:
		return 0, e
	case m.things[p.n].kind == 2:
		return 0, api.ErrIsDir
	}
	return p.n, api.OK
}

// at is the number of an inode, if one can have it; else one that none has, and that is no word for a path.
func (m *plain) at(n int) int {
	if n < 1 || n > m.g.Count-1 {
		return -2
	}
	return n
}

func (m *plain) ReadAt(n, off, size int) (string, api.Errno) { return m.read("", m.at(n), off, size) }

func (m *plain) WriteAt(n, off int, s string) api.Errno {
	_, e := m.try(func(c *plain) (int, api.Errno) { return c.write("", m.at(n), off, s) })
	return e
}

func (m *plain) CutAt(n, size int) api.Errno {
	_, e := m.try(func(c *plain) (int, api.Errno) { return c.cut("", m.at(n), size) })
	return e
}

func (m *plain) StatAt(n int) (api.Stat, api.Errno) {
	if m.things[n] == nil {
		return api.Stat{}, api.ErrInode
	}
	return m.stat(n), api.OK
}

func (m *plain) Release(n int) api.Errno {
	_, e := m.try(func(m *plain) (int, api.Errno) {
		o := m.things[n]
		switch {
		case o == nil:
			return 0, api.ErrInode
		case o.kind != 1 || o.links != 0:
			return 0, api.ErrInval
		}
		delete(m.things, n)
		return 0, api.OK
	})
	return e
}
