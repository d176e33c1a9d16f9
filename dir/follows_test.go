package dir_test

import (
	"maps"
	"math/rand"
	"slices"
	"strings"
	"testing"

	"bole/adisk"
	"bole/api"
	"bole/dir"
	"bole/txn"
)

// held is the names that a directory has, each with its inode, and the most that it had at one time.
type held struct {
	inodes map[string]int
	most   int
}

func (h *held) copy() *held { return &held{maps.Clone(h.inodes), h.most} }

// against holds a directory that began empty against what was done to it.
func (w *world) against(what string, n int, h *held) {
	w.t.Helper()
	w.blocks(what, n, (h.most+15)/16)
	l, e := dir.List(w.x, w.g, n)
	places := map[int]int{}
	for i, s := range slices.Sorted(maps.Keys(h.inodes)) {
		if i >= len(l) || l[i].Name != s || l[i].Inode != h.inodes[s] {
			w.t.Fatalf("P15.6: %s: List(%d): %s, %d; want at %d %q %d", what, n, short(l), e, i, s, h.inodes[s])
		}
		places[l[i].Place]++
	}
	if len(l) != len(h.inodes) || len(places) != len(l) || e != api.OK {
		w.t.Fatalf("P15.6: %s: List(%d): %s, %d, want %d names in as many cells", what, n, short(l), e, len(h.inodes))
	}
	if k, e := dir.Size(w.x, w.g, n); k != len(l) || e != api.OK {
		w.t.Fatalf("P15.6: %s: Size(%d): %d, %d, want %d", what, n, k, e, len(l))
	}
}

// change makes any of the calls on a directory, and does the same to what is held.
func (w *world) change(r *rand.Rand, n int, h *held, names int) {
	w.t.Helper()
	s, to := name(r.Intn(names)), 1+r.Intn(w.g.Count-1)
	had, is := h.inodes[s]
	switch what := r.Intn(10); {
	case what < 4 && is:
		w.add("P15.6", n, s, to, api.ErrExist)
	case what < 4:
		w.add("P15.6", n, s, to, api.OK)
		h.inodes[s] = to
		h.most = max(h.most, len(h.inodes))
	case what < 7 && is:
		w.remove("P15.6", n, s, had)
		delete(h.inodes, s)
	case what < 7:
		w.noRemove("P15.6", n, s, api.ErrNone)
	case what < 8 && is:
		w.replace("P15.6", n, s, to, had)
		h.inodes[s] = to
	case what < 8:
		w.noReplace("P15.6", n, s, to, api.ErrNone)
	case is:
		w.find("P15.6", n, s, had)
	default:
		w.noFind("P15.6", n, s, api.ErrNone)
	}
}

// P15.6: any calls on three directories that began empty, over transactions that are committed or let go.
func TestFollows(t *testing.T) {
	for seed := range int64(60) {
		r := rand.New(rand.NewSource(seed))
		w := fresh(t, 300)
		names := []int{5, 20, 40, 300}[r.Intn(4)]
		now := map[int]*held{}
		for _, n := range []int{1, 2, 9} {
			now[n] = &held{map[string]int{}, 0}
		}
		was := map[int]*held{1: now[1].copy(), 2: now[2].copy(), 9: now[9].copy()}
		for range 400 {
			n := []int{1, 2, 9}[r.Intn(3)]
			w.change(r, n, now[n], names)
			if r.Intn(20) > 0 {
				continue
			}
			from, to := now, was
			if r.Intn(3) == 0 {
				from, to = was, now
				w.x.Abort()
				w.x = txn.Begin(w.d)
			} else {
				w.again()
			}
			for n := range from {
				to[n] = from[n].copy()
				w.against("between", n, now[n])
			}
		}
		for n, h := range now {
			w.against("at the end", n, h)
		}
	}
}

// P15.6: behind Remove and Add of as many other names a directory has not grown.
func TestNotGrown(t *testing.T) {
	for _, count := range []int{1, 15, 16, 17, 32, 100, 160} {
		for _, many := range []int{1, 7, 16, count} {
			w := fresh(t, 128)
			w.build(1, (count+15)/16, row(0, count)...)
			x := w.record(1)
			many = min(many, count)
			r := rand.New(rand.NewSource(int64(count + many)))
			gone := r.Perm(count)[:many]
			for _, i := range gone {
				w.remove("P15.6", 1, name(i), 1+i%15)
			}
			for _, i := range gone {
				w.add("P15.6", 1, strings.Replace(name(i), "n", "m", 1), 3, api.OK)
			}
			w.is("P15.6: not grown", 1, x)
			if k, e := dir.Size(w.x, w.g, 1); k != count || e != api.OK {
				t.Errorf("P15.6: Size: %d, %d, want %d", k, e, count)
			}
		}
	}
}

// P15.6: by commit a directory lasts as it is; by a power cut ahead of it nothing does.
func TestLasts(t *testing.T) {
	w := fresh(t, 128)
	for i := range 40 {
		w.add("P15.6", 1, name(i), 1+i%15, api.OK)
	}
	w.again()
	w.list("P15.6: committed", 1, row(0, 40)...)
	for i := range 20 {
		w.remove("P15.6", 1, name(i), 1+i%15)
	}
	w.add("P15.6", 1, "z", 3, api.OK)
	w.d.Crash(nil)
	d, e := adisk.Open(w.d.Image())
	want(t, "what lasts", e, api.OK)
	w.d, w.x = d, txn.Begin(d)
	w.list("P15.6: as committed", 1, row(0, 40)...)
}
