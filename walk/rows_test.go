package walk_test

import (
	"fmt"
	"math/rand"
	"slices"
	"strings"
	"testing"

	"bole/api"
	"bole/dir"
	"bole/file"
	"bole/inode"
	"bole/path"
	"bole/walk"
)

// plain is the three calls as the chapter's words say them, over the layers below.
type plain struct{ *world }

// from walks over components from a row on; more: as if another component were left behind them.
func (p plain) from(row []int, left []string, followed int, follow, more bool) (walk.Place, api.Errno) {
	if len(left) == 0 {
		return walk.Place{Chain: row, Inode: row[len(row)-1]}, api.OK
	}
	c, rest := left[0], left[1:]
	if c == ".." {
		return p.from(row[:max(1, len(row)-1)], rest, followed, follow, more)
	}
	n, e := dir.Find(p.x, p.g, row[len(row)-1], c)
	if e != api.OK {
		return walk.Place{}, e
	}
	x, e := inode.Get(p.x, p.g, n)
	if e != api.OK {
		return walk.Place{}, e
	}
	behind := len(rest) > 0 || more
	switch {
	case x.Kind == 2 && behind:
		return p.from(append(slices.Clone(row), n), rest, followed, follow, more)
	case x.Kind == 3 && (behind || follow):
		if followed == 8 {
			return walk.Place{}, api.ErrLoop
		}
		s, e := file.Read(p.x, p.g, n, 0, 1024)
		if e != api.OK {
			return walk.Place{}, e
		}
		parts, _, e := path.Text(s)
		if e != api.OK {
			return walk.Place{}, e
		}
		if strings.HasPrefix(s, "/") {
			row = []int{1}
		}
		return p.from(row, slices.Concat(parts, rest), followed+1, follow, more)
	case behind:
		return walk.Place{}, api.ErrNotDir
	}
	return walk.Place{Chain: row, Name: c, Inode: n}, api.OK
}

func (p plain) to(s string, follow bool) (walk.Place, api.Errno) {
	parts, e := path.Parse(s)
	if e != api.OK {
		return walk.Place{}, e
	}
	return p.from([]int{1}, parts, 0, follow, false)
}

func (p plain) make(s string) (walk.Place, api.Errno) {
	ahead, last, e := path.Make(s)
	if e != api.OK {
		return walk.Place{}, e
	}
	if last == "" {
		return itself(1), api.OK
	}
	at, e := p.from([]int{1}, ahead, 0, false, true)
	if e != api.OK {
		return walk.Place{}, e
	}
	n, e := dir.Find(p.x, p.g, at.Inode, last)
	if e == api.ErrNone {
		return place(last, 0, at.Chain...), api.OK
	}
	if e != api.OK {
		return walk.Place{}, e
	}
	return place(last, n, at.Chain...), api.OK
}

func (p plain) height(n int) (int, api.Errno) {
	x, e := inode.Get(p.x, p.g, n)
	if e != api.OK {
		return 0, e
	}
	if x.Kind != 2 {
		return 0, api.ErrNotDir
	}
	level := map[int]bool{n: true}
	told := 0
	for number := 1; len(level) > 0; number++ {
		next := map[int]bool{}
		for m := range p.g.Count {
			if !level[m] {
				continue
			}
			l, e := dir.List(p.x, p.g, m)
			if e != api.OK {
				return 0, e
			}
			if len(l) > 0 {
				told = number
			}
			if told == 33 {
				return 33, api.OK
			}
			for _, c := range l {
				x, e := inode.Get(p.x, p.g, c.Inode)
				if e != api.OK {
					return 0, e
				}
				if x.Kind == 2 {
					next[c.Inode] = true
				}
			}
		}
		level = next
	}
	return told, api.OK
}

// letters are the names of which any tree is made.
const letters = "abcdef"

func anyName(r *rand.Rand) string { return letters[r.Intn(6):][:1] }

// anyParts is a path's or a text's inside.
func anyParts(r *rand.Rand, most int) string {
	var l []string
	for range r.Intn(most) {
		switch r.Intn(12) {
		case 0, 1:
			l = append(l, "..")
		case 2:
			l = append(l, ".")
		case 3:
			l = append(l, "")
		default:
			l = append(l, anyName(r))
		}
	}
	s := strings.Join(l, "/")
	switch r.Intn(150) {
	case 0:
		s += "\x00"
	case 1:
		s += "/" + rep("x", 28)
	case 2:
		s += rep("/a", 33)
	}
	return s
}

// anyThing is an inode of any kind, whose names are of inodes from a number on; wrong: with names of what isn't there, and other faults.
func anyThing(r *rand.Rand, from int, wrong bool) thing {
	k := r.Intn(12)
	switch {
	case k < 7:
		var l []api.Entry
		for range r.Intn(9) {
			n := from + r.Intn(17-from)
			if wrong && r.Intn(40) == 0 {
				n = 100 + r.Intn(60)
			}
			l = append(l, has(anyName(r), n))
		}
		o := folder(l...)
		if wrong && len(l) > 0 {
			anyFault(r, &o)
		}
		return o
	case k < 10:
		s := anyParts(r, 5)
		if r.Intn(3) == 0 {
			s = "/" + s
		}
		if s == "" {
			s = "."
		}
		o := linkTo(s)
		if wrong {
			anyFault(r, &o)
		}
		return o
	case k == 10:
		return plainFile("x")
	}
	return thing{}
}

func anyFault(r *rand.Rand, o *thing) {
	switch r.Intn(30) {
	case 0:
		o.x.Direct[0] = 7
	case 1:
		o.b[0] = 0
		o.b[len(o.b)-1] = 1
	}
}

// anyDisk is things of any kinds with names of one another: few of such trees are right.
func anyDisk(t *testing.T, r *rand.Rand) *world {
	wrong, down := r.Intn(2) == 0, r.Intn(2)
	things := map[int]thing{}
	for n := 1; n < 16; n++ {
		things[n] = anyThing(r, 1+n*down, wrong)
	}
	if r.Intn(20) > 0 {
		things[1] = folder(has("a", 2+r.Intn(14)), has("b", 2+r.Intn(14)), has("c", 2+r.Intn(14)), has("d", 2+r.Intn(14)), has("e", 1+r.Intn(15)))
	}
	w := laid(t, things)
	if wrong && r.Intn(3) == 0 {
		w.noRecord(1 + r.Intn(15))
	}
	if wrong && r.Intn(20) == 0 {
		w.d.Crash(nil)
	}
	return w
}

// P16.1 to P16.3, W7: any paths and numbers on any disks, against the chapter's words.
func TestAnyDisks(t *testing.T) {
	count := map[string]int{}
	for seed := range int64(900) {
		r := rand.New(rand.NewSource(seed))
		w := anyDisk(t, r)
		p := plain{w}
		before := w.x.Written()
		for range 60 {
			s := "/" + anyParts(r, 8)
			follow := r.Intn(2) == 0
			a, e := walk.To(w.x, w.g, s, follow)
			b, f := p.to(s, follow)
			if !same(a, b) || e != f {
				t.Fatalf("P16.1: seed %d: To(%q, %t): %v, %d, want %v, %d", seed, s, follow, a, e, b, f)
			}
			count[fmt.Sprint("To ", f)]++
			a, e = walk.Make(w.x, w.g, s)
			b, f = p.make(s)
			if !same(a, b) || e != f {
				t.Fatalf("P16.2: seed %d: Make(%q): %v, %d, want %v, %d", seed, s, a, e, b, f)
			}
			count[fmt.Sprint("Make ", f)]++
		}
		for _, n := range r.Perm(17)[:6] {
			a, e := walk.Height(w.x, w.g, n)
			b, f := p.height(n)
			if a != b || e != f {
				t.Fatalf("P16.3: seed %d: Height(%d): %d, %d, want %d, %d", seed, n, a, e, b, f)
			}
			count[fmt.Sprint("Height ", f)]++
			if f == api.OK {
				count[fmt.Sprint("levels ", b)]++
			}
		}
		if !slices.Equal(w.x.Written(), before) {
			t.Fatalf("P16.5: seed %d: something is put", seed)
		}
	}
	for _, what := range []string{
		"To E0", "To E1", "To E30", "To E100", "To E110", "To E111", "To E130", "To E140", "To E160", "To E161", "To E162",
		"Make E0", "Make E1", "Make E30", "Make E100", "Make E110", "Make E111", "Make E130", "Make E140", "Make E160", "Make E161", "Make E162",
		"Height E0", "Height E30", "Height E100", "Height E110", "Height E111", "Height E140", "Height E161", "levels 0", "levels 1", "levels 2", "levels 3", "levels 33",
	} {
		if count[what] < 20 {
			t.Errorf("%s came out %d times only", what, count[what])
		}
	}
}
