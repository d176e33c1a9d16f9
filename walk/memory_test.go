package walk_test

import (
	"slices"
	"testing"

	"bole/api"
	"bole/txn"
	"bole/walk"
)

// P16.5, W3: a Chain that is written over by the caller, its spare room too, changes no other answer, no later one, and nothing that is put.
func TestChainsWrittenOver(t *testing.T) {
	w := example(t)
	asks := map[string]func() (walk.Place, api.Errno){}
	for _, s := range []string{"/", "/..", "/a", "/a/b/f", "/a/b/..", "/a/b/../..", "/l/f", "/a/up", "/a/b/top", "/a/b/top/a/b"} {
		asks["To "+s] = func() (walk.Place, api.Errno) { return walk.To(w.x, w.g, s, true) }
	}
	for _, s := range []string{"/", "/a", "/a/b/x", "/a/b/../x", "/l/f"} {
		asks["Make "+s] = func() (walk.Place, api.Errno) { return walk.Make(w.x, w.g, s) }
	}
	w.still(func() {
		for first, ask := range asks {
			for second, other := range asks {
				p, _ := ask()
				q, _ := other()
				chain := slices.Clone(q.Chain)
				for i := range p.Chain[:cap(p.Chain)] {
					p.Chain[:cap(p.Chain)][i] = 99
				}
				if !slices.Equal(q.Chain, chain) {
					t.Errorf("W3: what %s has told changes with what %s has: %v, want %v", second, first, q.Chain, chain)
				}
				_ = append(q.Chain, 98, 97)
				again, e := other()
				if !slices.Equal(again.Chain, chain) || e != api.OK {
					t.Errorf("W3: %s tells %v, %d behind that, want %v", second, again.Chain, e, chain)
				}
			}
		}
	})
}

// W5, D11: nothing is kept between the calls: what is put beside them, taken back, or let go, is what they see.
func TestNothingIsKept(t *testing.T) {
	w := grove(t, []string{"d/e"}, nil)
	w.to("/k0/h", place("h", 6, 1, 2, 4))
	w.height("as laid", 1, 3)
	mark, _ := w.x.Mark()

	w.lay(at(20, 0), append([]byte("d//"), make([]byte, 509)...))
	w.noTo("/k0/h", api.ErrNone)
	w.to("/k0/g", place("g", 5, 1, 2))
	w.lay(at(2, 0), folder(has("h", 3)).b)
	w.to("/k0/h", place("h", 3, 1, 2))
	w.height("another directory", 1, 2)
	w.setRecord(2, plainFile("").x)
	w.noTo("/k0/h", api.ErrNotDir)
	w.height("a file now", 1, 1)
	w.noHeight("a file now", 2, api.ErrNotDir)
	w.setRecord(3, w.record(4))
	w.to("/f/h", place("h", 6, 1, 3))

	want(t, "Back", w.x.Back(mark), api.OK)
	w.to("/k0/h", place("h", 6, 1, 2, 4))
	w.height("back", 1, 3)
	w.noTo("/f/h", api.ErrNotDir)

	w.setRecord(2, plainFile("").x)
	w.x.Abort()
	w.noTo("/k0/h", api.ErrOver)
	w.x = txn.Begin(w.d)
	w.to("/k0/h", place("h", 6, 1, 2, 4))
	w.height("anew", 1, 3)
}

// W5: two disks beside each other: neither call knows of the other.
func TestTwoDisks(t *testing.T) {
	a := grove(t, []string{"d"}, nil)
	b := laid(t, map[int]thing{1: folder(has("d", 4), has("k0", 5)), 4: folder(has("g", 1)), 5: linkTo("d/g")})
	for range 3 {
		a.to("/k0/g", place("g", 5, 1, 2))
		b.to("/k0/d", place("d", 4, 1, 4, 1))
		a.noTo("/k0/d", api.ErrNone)
		b.noTo("/k0/g", api.ErrNone)
		a.make("/k0/z", place("z", 0, 1, 2))
		b.make("/k0/z", place("z", 0, 1, 4, 1))
		a.height("one", 1, 3)
		b.height("the other", 1, 33)
	}
}

// W3: a path that was handed in isn't kept in the caller's memory.
func TestPathIsCopied(t *testing.T) {
	w := example(t)
	b := []byte("/a/b")
	p, e := walk.Make(w.x, w.g, string(b))
	copy(b, "/x/y")
	if !same(p, place("b", 3, 1, 2)) || e != api.OK {
		t.Errorf("Make: %v, %d", p, e)
	}
}

// P16.5: a transaction with no room for a put, and a disk whose next step is its last: no call asks for either.
func TestNoRoomWanted(t *testing.T) {
	w := grove(t, []string{"d/e"}, nil)
	for i := 1023; len(w.x.Written()) < api.LogMax; i-- {
		w.lay(i, w.block(i))
	}
	want(t, "Arm", w.d.Arm(api.Crash{At: 1}), api.OK)
	w.still(func() {
		w.to("/k0/h", place("h", 6, 1, 2, 4))
		w.make("/k0/z", place("z", 0, 1, 2, 4))
		w.noTo("/x", api.ErrNone)
		w.height("as laid", 1, 3)
	})
	if w.d.Down() {
		t.Errorf("P16.5: a call had a step")
	}
}
