package walk_test

import (
	"fmt"
	"math/rand"
	"slices"
	"strings"
	"testing"

	"bole/api"
	"bole/dir"
	"bole/walk"
)

// named is a name on a right disk: the directories above it, and the texts that lead there.
type named struct {
	chain []int
	way   []string
	inode int
	kind  int
	text  string // of a symbolic link
}

func (o named) path() string { return "/" + strings.Join(o.way, "/") }

func (o named) place() walk.Place {
	return place(o.way[len(o.way)-1], o.inode, o.chain...)
}

// inside is the row of directories that a name in this one has above it.
func (o named) inside() []int { return append(slices.Clone(o.chain), o.inode) }

// plant makes a right tree of any shape by the calls of the layers below: all its names.
func plant(w *world, r *rand.Rand) []named {
	root := named{inode: 1, kind: 2}
	dirs, l := []named{root}, []named{}
	for i := range 45 {
		in := dirs[r.Intn(len(dirs))]
		if len(in.way) > 9 {
			continue
		}
		name := fmt.Sprint("n", i)
		o := named{chain: in.inside(), way: append(slices.Clone(in.way), name), kind: []int{1, 2, 2, 3}[r.Intn(4)]}
		switch o.kind {
		case 1:
			o.inode = w.put(in.inode, name, plainFile(name))
		case 2:
			o.inode = w.put(in.inode, name, folder())
			dirs = append(dirs, o)
		case 3:
			o.text = anyText(r, l)
			o.inode = w.put(in.inode, name, linkTo(o.text))
		}
		l = append(l, o)
		if o.kind != 2 && r.Intn(3) == 0 {
			twin := dirs[r.Intn(len(dirs))]
			o.chain, o.way = twin.inside(), append(slices.Clone(twin.way), name+"twin")
			if e := dir.Add(w.x, w.g, twin.inode, name+"twin", o.inode); e != api.OK {
				w.t.Fatalf("a second name: %d", e)
			}
			l = append(l, o)
		}
	}
	w.again()
	return l
}

// anyText is a text to one of the names, or to none.
func anyText(r *rand.Rand, l []named) string {
	s := []string{"..", ".", "/", "x", "../..", "/x"}[r.Intn(6)]
	if len(l) > 0 && r.Intn(5) > 0 {
		way := l[r.Intn(len(l))].path()
		s = []string{way, way[1:], ".." + way, way + "/.."}[r.Intn(4)]
	}
	return s
}

// P16.4: on right disks of any shape.
func TestRightDisks(t *testing.T) {
	for seed := range int64(40) {
		r := rand.New(rand.NewSource(seed))
		w := fresh(t, 512)
		l := plant(w, r)
		w.still(func() {
			eachName(w, l)
			heights(w, l)
			throughLinks(w, l)
		})
	}
}

// eachName: To leads along the names, Make tells the same, '..' leads back; each name has a place of its own.
func eachName(w *world, l []named) {
	w.t.Helper()
	seen := map[string]bool{}
	for _, o := range l {
		s, p := o.path(), o.place()
		w.toward(s, false, p, api.OK)
		w.make(s, p)
		if o.kind != 3 {
			w.toward(s, true, p, api.OK)
		}
		switch o.kind {
		case 1:
			w.noTo(s+"/..", api.ErrNotDir)
			w.noMake(s+"/z", api.ErrNotDir)
		case 2:
			w.to(s+"/..", itself(o.chain...))
			w.noTo(s+"/z", api.ErrNone)
			w.make(s+"/z", place("z", 0, o.inside()...))
		}
		key := fmt.Sprint(o.chain, o.way[len(o.way)-1])
		if seen[key] {
			w.t.Errorf("P16.4: two names at %s", key)
		}
		seen[key] = true
	}
}

// heights: how deep the names below each directory go.
func heights(w *world, l []named) {
	w.t.Helper()
	deep := map[int]int{1: 0}
	for _, o := range l {
		if o.kind == 2 {
			deep[o.inode] += 0
		} else {
			w.noHeight("no directory", o.inode, api.ErrNotDir)
		}
		for i, n := range o.chain {
			deep[n] = max(deep[n], len(o.chain)-i)
		}
	}
	for n, levels := range deep {
		w.height("a right tree", n, levels)
	}
}

// throughLinks: a path through a link leads where its text leads, from the directory that has the link.
func throughLinks(w *world, l []named) {
	w.t.Helper()
	for _, o := range l {
		if o.kind != 3 {
			continue
		}
		from := "/" + strings.Join(o.way[:len(o.way)-1], "/") + "/"
		if o.text[0] == '/' {
			from = ""
		}
		for _, rest := range []string{"", "/..", "/x", "/n1", "/n0/../n2", "/../n3", "/../../n4"} {
			for _, follow := range []bool{true, false} {
				if rest == "" && !follow {
					continue
				}
				p, e := walk.To(w.x, w.g, o.path()+rest, follow)
				q, f := walk.To(w.x, w.g, from+o.text+rest, follow)
				// A text without components leads to a directory itself; the path without the link may name it.
				if _, none := map[string]int{".": 0, "/": 0}[o.text]; none && rest == "" {
					p.Chain, p.Name, q.Chain, q.Name = nil, "", nil, ""
				}
				if e != api.ErrLoop && (!same(p, q) || e != f) {
					w.t.Errorf("P16.4: %s to %s, with %q behind it: %v, %d, want %v, %d", o.path(), o.text, rest, p, e, q, f)
				}
			}
		}
	}
}

// P16.4: what is put in a transaction is seen by it at once, and taken back with it.
func TestSeenAtOnce(t *testing.T) {
	w := fresh(t, 128)
	w.noTo("/a", api.ErrNone)
	mark, _ := w.x.Mark()
	a := w.put(1, "a", folder())
	w.to("/a", place("a", a, 1))
	w.height("a name", 1, 1)
	b := w.put(a, "b", linkTo("c"))
	w.toward("/a/b", true, walk.Place{}, api.ErrNone)
	c := w.put(a, "c", folder())
	w.toward("/a/b", true, place("c", c, 1, a), api.OK)
	w.make("/a/b/x", place("x", 0, 1, a, c))
	w.height("two levels", 1, 2)
	if n, e := dir.Remove(w.x, w.g, a, "b"); n != b || e != api.OK {
		t.Errorf("Remove: %d, %d", n, e)
	}
	w.noTo("/a/b/x", api.ErrNone)
	want(t, "Back", w.x.Back(mark), api.OK)
	w.noTo("/a", api.ErrNone)
	w.make("/a", place("a", 0, 1))
	w.height("no name", 1, 0)
}
