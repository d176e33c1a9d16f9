package acts_test

import (
	"maps"
	"slices"

	"bole/api"
	"bole/path"
)

// node is an inode of a plain tree.
type node struct {
	kind, links, size int
	names             map[string]int
	text              string
	pieces            map[int]bool // the indices that have a block
}

// tree is the file system without a disk.
type tree struct {
	g     api.Geo
	nodes map[int]*node
}

func newTree(g api.Geo) *tree {
	return &tree{g, map[int]*node{1: {kind: 2, links: 2, names: map[string]int{}, pieces: map[int]bool{}}}}
}

func (m *tree) copy() *tree {
	c := &tree{m.g, map[int]*node{}}
	for n, o := range m.nodes {
		p := *o
		p.names, p.pieces = maps.Clone(o.names), maps.Clone(o.pieces)
		c.nodes[n] = &p
	}
	return c
}

// takes is how many blocks a node has, tables with them.
func (o *node) takes() int {
	count := len(o.pieces)
	tables := map[int]bool{}
	for k := range o.pieces {
		switch {
		case k >= 138:
			tables[-2] = true
			tables[(k-138)/128] = true
		case k >= 10:
			tables[-1] = true
		}
	}
	return count + len(tables)
}

func (m *tree) free() (int, int) {
	blocks := m.g.Blocks - m.g.Data
	for _, o := range m.nodes {
		blocks -= o.takes()
	}
	return blocks, m.g.Count - 1 - len(m.nodes)
}

func (m *tree) orphans() []int {
	var l []int
	for n, o := range m.nodes {
		if o.kind == 1 && o.links == 0 {
			l = append(l, n)
		}
	}
	slices.Sort(l)
	return l
}

// spot is where a name stands, or is to stand.
type spot struct {
	chain []int
	name  string
	n     int
}

func (p spot) in() int { return p.chain[len(p.chain)-1] }

// walk goes over components from the root on; more: another one stands behind them. Links at the end aren't followed.
func (m *tree) walk(left []string, more bool) (spot, api.Errno) {
	row, followed := []int{1}, 0
	for len(left) > 0 {
		c := left[0]
		left = left[1:]
		if c == ".." {
			row = row[:max(1, len(row)-1)]
			continue
		}
		n, ok := m.nodes[row[len(row)-1]].names[c]
		if !ok {
			return spot{}, api.ErrNone
		}
		behind := more || len(left) > 0
		o := m.nodes[n]
		switch {
		case !behind:
			return spot{row, c, n}, api.OK
		case o.kind == 2:
			row = append(slices.Clone(row), n)
		case o.kind == 3:
			followed++
			if followed > 8 {
				return spot{}, api.ErrLoop
			}
			parts, top, _ := path.Text(o.text)
			if top {
				row = []int{1}
			}
			left = slices.Concat(parts, left)
		default:
			return spot{}, api.ErrNotDir
		}
	}
	return spot{row, "", row[len(row)-1]}, api.OK
}

func (m *tree) make(s string) (spot, api.Errno) {
	ahead, last, e := path.Make(s)
	if e != api.OK {
		return spot{}, e
	}
	if last == "" {
		return spot{[]int{1}, "", 1}, api.OK
	}
	p, e := m.walk(ahead, true)
	if e != api.OK {
		return spot{}, e
	}
	return spot{p.chain, last, m.nodes[p.n].names[last]}, api.OK
}

// add gives an inode a name; the directory gets a block, if all that it has are full.
func (m *tree) add(p spot, n int) {
	d := m.nodes[p.in()]
	d.names[p.name] = n
	if len(d.names)*32 > d.size {
		d.pieces[d.size/512] = true
		d.size += 512
	}
}

func (m *tree) new(s string, o *node) (int, api.Errno) {
	p, e := m.make(s)
	switch {
	case e != api.OK:
		return 0, e
	case p.n != 0:
		return 0, api.ErrExist
	case len(p.chain) > 32:
		return 0, api.ErrTooLong
	}
	n := 1
	for m.nodes[n] != nil {
		n++
	}
	if n >= m.g.Count {
		return 0, api.ErrSpace
	}
	o.names = map[string]int{}
	o.pieces = map[int]bool{}
	for k := range (len(o.text) + 511) / 512 {
		o.pieces[k] = true
	}
	m.nodes[n] = o
	m.add(p, n)
	if o.kind == 2 {
		m.nodes[p.in()].links++
	}
	return n, api.OK
}

func (m *tree) link(old, other string) api.Errno {
	parts, e := path.Parse(old)
	if e != api.OK {
		return e
	}
	if _, _, e := path.Make(other); e != api.OK {
		return e
	}
	p, e := m.walk(parts, false)
	if e != api.OK {
		return e
	}
	q, e := m.make(other)
	switch {
	case e != api.OK:
		return e
	case m.nodes[p.n].kind == 2:
		return api.ErrPerm
	case q.n != 0:
		return api.ErrExist
	case m.nodes[p.n].links == 1000:
		return api.ErrLinks
	case len(q.chain) > 32:
		return api.ErrTooLong
	}
	m.nodes[p.n].links++
	m.add(q, p.n)
	return api.OK
}

// lose takes a name off an inode: its number, if it is an orphan then.
func (m *tree) lose(n int, hold bool) int {
	o := m.nodes[n]
	if o.kind == 2 {
		delete(m.nodes, n)
		return 0
	}
	o.links--
	switch {
	case o.links == 0 && o.kind == 1 && hold:
		return n
	case o.links == 0:
		delete(m.nodes, n)
	}
	return 0
}

func (m *tree) unlink(s string, hold bool) (int, api.Errno) {
	p, e := m.make(s)
	switch {
	case e != api.OK:
		return 0, e
	case p.n == 1:
		return 0, api.ErrIsDir
	case p.n == 0:
		return 0, api.ErrNone
	case m.nodes[p.n].kind == 2:
		return 0, api.ErrIsDir
	}
	delete(m.nodes[p.in()].names, p.name)
	return m.lose(p.n, hold), api.OK
}

func (m *tree) rmdir(s string) api.Errno {
	p, e := m.make(s)
	switch {
	case e != api.OK:
		return e
	case p.n == 1:
		return api.ErrBusy
	case p.n == 0:
		return api.ErrNone
	case m.nodes[p.n].kind != 2:
		return api.ErrNotDir
	case len(m.nodes[p.n].names) > 0:
		return api.ErrNotEmpty
	}
	delete(m.nodes[p.in()].names, p.name)
	m.nodes[p.in()].links--
	delete(m.nodes, p.n)
	return api.OK
}

// height is how deep the names below a node go.
func (m *tree) height(n int) int {
	h := 0
	for _, k := range m.nodes[n].names {
		h = max(h, 1+m.height(k))
	}
	return h
}

func (m *tree) rename(old, other string, hold bool) (int, api.Errno) {
	for _, s := range []string{old, other} {
		if _, _, e := path.Make(s); e != api.OK {
			return 0, e
		}
	}
	p, e := m.make(old)
	if e == api.OK && p.n == 0 {
		e = api.ErrNone
	}
	if e != api.OK {
		return 0, e
	}
	q, e := m.make(other)
	switch {
	case e != api.OK:
		return 0, e
	case p.n == 1 || q.n == 1:
		return 0, api.ErrBusy
	case p.n == q.n:
		return 0, api.OK
	}
	isDir := m.nodes[p.n].kind == 2
	overDir := q.n != 0 && m.nodes[q.n].kind == 2
	switch {
	case overDir && !isDir:
		return 0, api.ErrIsDir
	case q.n != 0 && !overDir && isDir:
		return 0, api.ErrNotDir
	case isDir && slices.Contains(q.chain, p.n):
		return 0, api.ErrInval
	case overDir && len(m.nodes[q.n].names) > 0:
		return 0, api.ErrNotEmpty
	case len(q.chain)+m.height(p.n) > 32:
		return 0, api.ErrTooLong
	}
	delete(m.nodes[p.in()].names, p.name)
	m.add(q, p.n)
	if isDir {
		m.nodes[p.in()].links--
		m.nodes[q.in()].links++
	}
	if q.n == 0 {
		return 0, api.OK
	}
	if overDir {
		m.nodes[q.in()].links--
	}
	return m.lose(q.n, hold), api.OK
}

func (m *tree) release(n int) api.Errno {
	o := m.nodes[n]
	switch {
	case o == nil:
		return api.ErrInode
	case o.kind != 1 || o.links != 0:
		return api.ErrInval
	}
	delete(m.nodes, n)
	return api.OK
}

// do makes a call on the tree; one that leaves a tree for which there are too few blocks is refused.
func (m *tree) do(c call) (n int, e api.Errno) {
	before := m.copy()
	defer func() {
		if blocks, _ := m.free(); e == api.OK && blocks < 0 {
			n, e = 0, api.ErrSpace
		}
		if e != api.OK {
			m.nodes = before.nodes
		}
	}()
	switch c.op {
	case "Create":
		return m.new(c.a, &node{kind: 1, links: 1})
	case "Mkdir":
		return m.new(c.a, &node{kind: 2, links: 2})
	case "Symlink":
		if _, _, e := path.Text(c.a); e != api.OK {
			return 0, e
		}
		return m.new(c.b, &node{kind: 3, links: 1, size: len(c.a), text: c.a})
	case "Link":
		return 0, m.link(c.a, c.b)
	case "Unlink":
		return m.unlink(c.a, c.hold)
	case "Rmdir":
		return 0, m.rmdir(c.a)
	case "Rename":
		return m.rename(c.a, c.b, c.hold)
	}
	return 0, m.release(c.n)
}
