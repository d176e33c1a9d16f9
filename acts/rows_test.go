package acts_test

import (
	"fmt"
	"maps"
	"math/rand"
	"slices"
	"strings"
	"testing"

	"bole/acts"
	"bole/api"
	"bole/bmap"
	"bole/file"
)

// row is a row of any calls on a disk, beside the plain tree.
type row struct {
	*world
	r     *rand.Rand
	m     *tree
	names string // one of its letters is a name
	tops  []string
	count map[string]int
}

func (a *row) name() string {
	switch a.r.Intn(40) {
	case 0:
		return []string{rep("n", 27), "...", ".x", "\xff"}[a.r.Intn(4)]
	case 1:
		return []string{rep("n", 28), "..", ".", "\x00"}[a.r.Intn(4)]
	}
	return a.names[a.r.Intn(len(a.names)):][:1]
}

// known is a path of something that is there.
func (a *row) known() string {
	s, n := "", 1
	for {
		l := slices.Sorted(maps.Keys(a.m.nodes[n].names))
		if len(l) == 0 || s != "" && a.r.Intn(3) == 0 {
			return "/" + strings.TrimPrefix(s, "/")
		}
		name := l[a.r.Intn(len(l))]
		s, n = s+"/"+name, a.m.nodes[n].names[name]
	}
}

// path is any path: of what is there, of a name in that, of a few names.
func (a *row) path() string {
	top := a.tops[a.r.Intn(len(a.tops))]
	switch a.r.Intn(12) {
	case 0:
		return "/"
	case 1, 2, 3, 4:
		return a.known()
	case 5, 6, 7:
		return a.known() + "/" + a.name()
	case 8:
		return a.known() + "/../" + a.name() + "/"
	case 9:
		return top + "/" + a.name()
	case 10:
		return top + "/" + a.name() + "/" + a.name()
	}
	return "/" + a.name()
}

// paths are two, most often of what is there and of a name that may come.
func (a *row) paths() (string, string) {
	if a.r.Intn(2) == 0 {
		return a.path(), a.path()
	}
	if a.r.Intn(2) == 0 {
		return a.known(), a.tops[a.r.Intn(len(a.tops))] + "/" + a.name()
	}
	return a.known(), a.known() + "/" + a.name()
}

func (a *row) text() string {
	switch a.r.Intn(10) {
	case 0:
		return ""
	case 1:
		return rep("/", 400+a.r.Intn(700))
	case 2:
		return a.known() + rep("/.", 300)
	case 3, 4:
		return "../" + a.name()
	}
	if a.r.Intn(2) == 0 {
		return strings.TrimPrefix(a.path(), "/")
	}
	return a.path()
}

func (a *row) call() call {
	hold := a.r.Intn(2) == 0
	switch k := a.r.Intn(100); {
	case k < 18:
		return create(a.path())
	case k < 36:
		return mkdir(a.path())
	case k < 44:
		return symlink(a.text(), a.path())
	case k < 56:
		return link(a.paths())
	case k < 64:
		return call{op: "Unlink", a: a.path(), hold: hold}
	case k < 70:
		return rmdir(a.path())
	case k < 94:
		c := rename(a.paths())
		c.hold = hold
		return c
	}
	return release(a.r.Intn(a.g.Count+2) - 1)
}

// know lets the tree know which blocks a file has.
func (a *row) know(n int) {
	x := a.record(n)
	blocks, _, _ := bmap.All(a.x, a.g, x)
	o := a.m.nodes[n]
	o.size, o.pieces = x.Size, map[int]bool{}
	for _, p := range blocks {
		o.pieces[p[0]] = true
	}
}

// crowd takes all blocks but a few.
func (a *row) crowd() {
	c := create("/z")
	c.on(a.x, a.g)
	n, _ := a.m.do(c)
	a.world.fill(n, 1+a.r.Intn(6))
	a.know(n)
	a.again()
}

// bytes writes into a file, or cuts it.
func (a *row) bytes() {
	n := 1 + a.r.Intn(a.g.Count-1)
	o := a.m.nodes[n]
	if o == nil || o.kind != 1 {
		return
	}
	off := []int{0, 5, 512, 5000, 5120, 6000, 70000, 70656, 140000}[a.r.Intn(9)]
	s := rep("x", 1+a.r.Intn(1500))
	e := file.Write(a.x, a.g, n, off, s)
	if a.r.Intn(6) == 0 && e == api.OK {
		e = file.Cut(a.x, a.g, n, off)
	}
	if e != api.OK && e != api.ErrSpace {
		a.t.Fatalf("a write into %d: %d", n, e)
	}
	a.know(n)
}

// hold holds the disk against the tree: each inode, each name, what is free, and that all of it is right.
func (a *row) hold(what string) {
	a.t.Helper()
	f := find(a.g, a.image())
	if len(f.faults) > 0 {
		a.t.Fatalf("P17.10: %s: %v", what, f.faults)
	}
	if l, e := acts.Orphans(a.x, a.g); !slices.Equal(l, a.m.orphans()) || e != api.OK {
		a.t.Fatalf("P17.9: %s: the orphans are %v, %d, want %v", what, l, e, a.m.orphans())
	}
	for n := 1; n < a.g.Count; n++ {
		x, o := f.records[n], a.m.nodes[n]
		if o == nil {
			o = &node{}
		}
		if x.Kind != o.kind || x.Links != o.links || x.Size != o.size || !maps.Equal(f.names[n], o.names) || f.count[n] != o.takes() || o.kind == 3 && f.text(n) != o.text {
			a.t.Fatalf("%s: inode %d is %v with %d blocks, %v, want %v", what, n, x, f.count[n], f.names[n], *o)
		}
		for k := range f.index[n] {
			if !o.pieces[k] {
				a.t.Fatalf("%s: inode %d has the index %d", what, n, k)
			}
		}
	}
	blocks, inodes := a.m.free()
	a.free(blocks, inodes)
}

func (a *row) step() {
	if a.r.Intn(8) == 0 {
		a.bytes()
	}
	c := a.call()
	n, e := c.on(a.x, a.g)
	m, f := a.m.do(c)
	if n != m || e != f {
		a.t.Fatalf("%s: %v: %d, %d, want %d, %d", c.promise(), c, n, e, m, f)
	}
	a.count[fmt.Sprint(c.op, " ", f)]++
	if m > 0 && c.hold {
		a.count[c.op+" orphan"]++
	}
	a.hold(c.String())
	if a.r.Intn(4) == 0 || len(a.x.Written()) > 70 {
		a.again()
	}
}

// P17.1 to P17.10: rows of any calls on right disks: each answers what the plain tree does, and leaves what it leaves.
func TestRightRows(t *testing.T) {
	count := map[string]int{}
	for seed := range int64(50) {
		r := rand.New(rand.NewSource(seed))
		w := fresh(t, []int{128, 128, 140, 190}[r.Intn(4)])
		a := &row{world: w, r: r, m: newTree(w.g), names: []string{"abc", "abcdefghijklmnopqrstuvwxyz"}[r.Intn(2)], tops: []string{""}, count: count}
		if r.Intn(2) == 0 {
			a.crowd()
		}
		for range 200 {
			a.step()
		}
	}
	for _, what := range []string{
		"Create E0", "Create E1", "Create E90", "Create E130", "Create E150", "Create E160", "Create E161", "Create E162",
		"Mkdir E0", "Mkdir E1", "Mkdir E90", "Mkdir E130", "Mkdir E150", "Mkdir E160", "Mkdir E161", "Mkdir E162",
		"Symlink E0", "Symlink E1", "Symlink E90", "Symlink E130", "Symlink E150", "Symlink E160", "Symlink E161",
		"Link E0", "Link E1", "Link E90", "Link E150", "Link E160", "Link E161", "Link E173",
		"Unlink E0", "Unlink orphan", "Unlink E1", "Unlink E160", "Unlink E161", "Unlink E170",
		"Rmdir E0", "Rmdir E1", "Rmdir E160", "Rmdir E161", "Rmdir E171", "Rmdir E172",
		"Rename E0", "Rename orphan", "Rename E1", "Rename E90", "Rename E160", "Rename E161", "Rename E170", "Rename E171", "Rename E172",
		"Release E0", "Release E1", "Release E110",
	} {
		if count[what] < 3 {
			t.Errorf("%s came out %d times only", what, count[what])
		}
	}
}

// P17.10, D7: the same where names lie deep.
func TestDeepRows(t *testing.T) {
	count := map[string]int{}
	for seed := range int64(16) {
		r := rand.New(rand.NewSource(seed))
		w := fresh(t, 520)
		a := &row{world: w, r: r, m: newTree(w.g), names: "ab", tops: []string{"", "/s29", "/s30", "/s31", "/s32"}, count: count}
		both := func(c call) {
			n, e := c.on(a.x, a.g)
			if m, f := a.m.do(c); n != m || e != f {
				t.Fatalf("%v: %d, %d, want %d, %d", c, n, e, m, f)
			}
		}
		for i := range 32 {
			both(mkdir(rep("/a", i+1)))
		}
		for i := 29; i <= 32; i++ {
			both(symlink(rep("/a", i), fmt.Sprint("/s", i)))
		}
		a.again()
		a.hold("the stem")
		for range 100 {
			a.step()
		}
	}
	for _, what := range []string{"Create E0", "Create E130", "Mkdir E0", "Mkdir E130", "Symlink E130", "Link E0", "Link E130", "Rename E0", "Rename E1", "Rename E130"} {
		if count[what] < 3 {
			t.Errorf("%s came out %d times only", what, count[what])
		}
	}
}
