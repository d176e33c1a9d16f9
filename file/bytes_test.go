package file_test

import (
	"fmt"
	"maps"
	"math/rand"
	"slices"
	"testing"

	"bole/api"
)

// row is a plain row of bytes: those that aren't zero by their place; and the indices in which a byte was written and not cut off.
type row struct {
	length  int
	bytes   map[int]byte
	indices map[int]bool
}

func (r *row) piece(off, count int) string {
	b := make([]byte, max(min(count, r.length-off), 0))
	for i := range b {
		b[i] = r.bytes[off+i]
	}
	return string(b)
}

func (r *row) write(off int, s string) {
	for i := range len(s) {
		r.bytes[off+i] = s[i]
		r.indices[(off+i)/size] = true
	}
	if s != "" {
		r.length = max(r.length, off+len(s))
	}
}

func (r *row) cut(to int) {
	maps.DeleteFunc(r.bytes, func(at int, _ byte) bool { return at >= to })
	if to < r.length {
		maps.DeleteFunc(r.indices, func(k int, _ bool) bool { return k*size >= to })
	}
	r.length = to
}

func (r *row) have() []int { return slices.Sorted(maps.Keys(r.indices)) }

// mayBe tells whether an inode of this number may have a size: 1 is a directory, 2 a symbolic link, the others are files.
func mayBe(n, length int) bool {
	switch n {
	case 1:
		return length%size == 0
	case 2:
		return length >= 1 && length <= 1024
	}
	return true
}

// shelf is inodes beside plain rows of bytes.
type shelf struct {
	*world
	r     *rand.Rand
	rows  map[int]*row
	left  int // how many blocks are free
	count map[string]int
}

func newShelf(w *world, r *rand.Rand, count map[string]int) *shelf {
	s := &shelf{w, r, map[int]*row{}, w.g.Blocks - w.g.Data, count}
	for _, n := range []int{1, 2, 5, 6, 9} {
		s.rows[n] = &row{w.record(n).Size, map[int]byte{}, map[int]bool{}}
	}
	return s
}

func (s *shelf) any() (int, *row) {
	n := []int{1, 2, 5, 5, 5, 6, 6, 9}[s.r.Intn(8)]
	return n, s.rows[n]
}

func (s *shelf) place(n int, r *row) int {
	k := s.r.Intn(10)
	switch {
	case n == 1:
		return size * s.r.Intn(4)
	case n == 2:
		return s.r.Intn(1030)
	case k == 0:
		return indices[s.r.Intn(len(indices))]*size + s.r.Intn(size)
	case k == 1:
		return max(r.length-2+s.r.Intn(5), 0)
	case k == 2:
		return size * s.r.Intn(12)
	}
	return s.r.Intn(13 * size)
}

func (s *shelf) length(n int) int {
	switch {
	case n == 1 && s.r.Intn(3) > 0:
		return size * (1 + s.r.Intn(2))
	case n == 2:
		return s.r.Intn(700)
	case s.r.Intn(4) == 0:
		return s.r.Intn(9000)
	}
	return s.r.Intn(1400)
}

// tell holds an answer against the one that is to be, and that a refused call has changed nothing.
func (s *shelf) tell(what string, code api.Errno, does func()) {
	s.t.Helper()
	s.count[fmt.Sprint(what[:6], code)]++
	if code == api.OK {
		does()
	} else {
		s.still(what, does)
	}
}

func (s *shelf) writeSome() {
	n, r := s.any()
	off, t := s.place(n, r), text(s.length(n), s.r.Intn(99))
	if s.r.Intn(9) == 0 {
		t = zeros(len(t))
	}
	what := fmt.Sprintf("Write: P12.5: to %d", n)
	need, code := wants(r.have(), off, len(t)), api.OK
	switch {
	case off+len(t) > most:
		code = api.ErrBig
	case t == "":
	case need > s.left:
		code = api.ErrSpace
	case !mayBe(n, max(r.length, off+len(t))):
		code = api.ErrRecord
	}
	s.tell(what, code, func() { s.write(what, n, off, t, code) })
	if code == api.OK {
		r.write(off, t)
		s.left -= need
	}
}

func (s *shelf) cutSome() {
	n, r := s.any()
	to := s.place(n, r)
	if s.r.Intn(4) == 0 {
		to = 0
	}
	what := fmt.Sprintf("Cut  : P12.5: of %d", n)
	code := api.OK
	if !mayBe(n, to) {
		code = api.ErrRecord
	}
	s.tell(what, code, func() { s.cut(what, n, to, code) })
	if code == api.OK {
		before := wantsOf(r.have())
		r.cut(to)
		s.left += before - wantsOf(r.have())
	}
}

// hold holds all inodes against their rows, in a piece or, now and then, whole.
func (s *shelf) hold() {
	s.t.Helper()
	taken := 0
	for _, n := range slices.Sorted(maps.Keys(s.rows)) {
		r := s.rows[n]
		off, count := s.place(n, r), s.length(n)
		s.reads("P12.5", n, off, count, r.piece(off, count))
		s.size("P12.5", n, r.length)
		if s.r.Intn(20) == 0 {
			whole := min(r.length, 16*size)
			s.reads("P12.5: whole", n, 0, whole, r.piece(0, whole))
			for _, k := range r.have() {
				s.reads("P12.5: an index", n, k*size, size, r.piece(k*size, size))
			}
		}
		s.blocks("P12.5", n, wantsOf(r.have()))
		taken += wantsOf(r.have())
	}
	if taken != s.g.Blocks-s.g.Data-s.left {
		s.t.Fatalf("P12.5: of %d blocks %d are said to be left", s.g.Blocks-s.g.Data-taken, s.left)
	}
	s.free("P12.5", s.left)
}

// P12.5: whatever is written and cut, in one transaction or in many, is as in plain rows of bytes; none changes another's; ErrSpace comes just if more is wanted than is free; Cut to 0 gives all back.
func TestPlainRows(t *testing.T) {
	count := map[string]int{}
	for seed := range int64(60) {
		r := rand.New(rand.NewSource(seed))
		n := []int{128, 128, 140, 220}[seed%4]
		s := newShelf(fresh(t, n), r, count)
		for range 80 {
			if r.Intn(3) == 0 {
				s.cutSome()
			} else {
				s.writeSome()
			}
			s.hold()
			// Of the greater disks a transaction has no room for all.
			if n > 140 || r.Intn(20) == 0 {
				s.again()
			}
			if t.Failed() {
				t.Fatalf("seed %d", seed)
			}
		}
		for _, n := range []int{1, 5, 6, 9} {
			s.cut("P12.5", n, 0, api.OK)
			s.blocks("P12.5", n, 0)
		}
		s.cut("P12.5", 2, 1, api.OK)
		s.rows[2].cut(1)
		s.free("P12.5", s.g.Blocks-s.g.Data-len(s.rows[2].have()))
	}
	for _, what := range []string{"Write:E0", "Write:E90", "Write:E111", "Write:E120", "Cut  :E0", "Cut  :E111"} {
		if count[what] < 10 {
			t.Errorf("%s came out %d times only", what, count[what])
		}
	}
}

// P12.5: two inodes side by side that are written, cut and written by turns.
func TestSideBySide(t *testing.T) {
	w := fresh(t, 128)
	ns := []int{1, 2, 5, 6, 9}
	for i, n := range ns {
		w.write("P12.5", n, 0, text(1024, i), api.OK)
	}
	for i, n := range ns {
		w.write("P12.5", n, 500, text(20, i+50), api.OK)
		w.cut("P12.5", n, 512, api.OK)
		for j, m := range ns {
			s := text(1024, j)
			if j <= i {
				s = text(500, j) + text(20, j+50)[:12]
			}
			w.reads("P12.5", m, 0, 2000, s)
		}
	}
	w.free("P12.5", 22)
	for i, n := range ns {
		w.write("P12.5", n, 1000, text(24, i), api.OK)
		w.reads("P12.5: zeros, whoever's the block was", n, 512, 2000, zeros(488)+text(24, i))
	}
	w.free("P12.5", 17)
}

// P12.5: the same inode's numbers on two disks: nothing is kept between the calls.
func TestTwoDisks(t *testing.T) {
	a, b := fresh(t, 128), fresh(t, 300)
	a.write("P12.5", 5, 0, text(700, 1), api.OK)
	b.reads("P12.5", 5, 0, 700, "")
	b.write("P12.5", 5, 100, text(900, 2), api.OK)
	a.reads("P12.5", 5, 0, 2000, text(700, 1))
	b.reads("P12.5", 5, 0, 2000, zeros(100)+text(900, 2))
	a.cut("P12.5", 5, 1, api.OK)
	b.size("P12.5", 5, 1000)
	a.x.Abort()
	b.again()
	b.reads("P12.5", 5, 0, 2000, zeros(100)+text(900, 2))
	a.noRead("P12.5", 5, 0, 1, api.ErrOver)
}

// P12.5: what was let go hasn't happened, what was committed lasts.
func TestAbortAndCommit(t *testing.T) {
	s := thin(t, 128, 1000, 0, 1)
	s.write("P12.5", 5, 300, text(3000, 1), api.OK)
	s.cut("P12.5", 5, 500, api.OK)
	want(t, "Back", s.x.Back(0), api.OK)
	s.whole("P12.5: let go")
	s.write("P12.5", 5, 300, text(3000, 1), api.OK)
	s.over(300, text(3000, 1))
	s.again()
	s.whole("P12.5: committed")
	s.written("P12.5: committed")
}
