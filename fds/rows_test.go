package fds_test

import (
	"bytes"
	"fmt"
	"maps"
	"math"
	"math/big"
	"math/rand"
	"slices"
	"strings"
	"testing"

	"bole/api"
	"bole/ram"
)

// slip is an open file on paper.
type slip struct{ inode, place, flags int }

// paper is the chapter word by word, over the file system in memory.
type paper struct {
	m    *ram.FS
	held map[int]*slip
}

func newPaper(t *testing.T, n int) *paper {
	t.Helper()
	m, e := ram.New(n)
	if e != api.OK {
		t.Fatalf("P18.1: New(%d): %d", n, e)
	}
	return &paper{m, map[int]*slip{}}
}

func (x *paper) Numbers() []int { return slices.Sorted(maps.Keys(x.held)) }

// takes lets the lowest number that isn't open stand for an open file.
func (x *paper) takes(o *slip) int {
	fd := 0
	for x.held[fd] != nil {
		fd++
	}
	x.held[fd] = o
	return fd
}

// open is whether an inode is.
func (x *paper) open(inode int) bool {
	for _, o := range x.held {
		if o.inode == inode {
			return true
		}
	}
	return false
}

func (x *paper) Open(s string, flags int) (int, api.Errno) {
	if !mayBe(flags) {
		return 0, api.ErrInval
	}
	if len(x.held) == 16 {
		return 0, api.ErrFds
	}
	n, e := x.m.Open(s, flags/4%2 == 1, flags/8%2 == 1)
	if e != api.OK {
		return 0, e
	}
	if flags/16%2 == 1 {
		if e := x.m.CutAt(n, 0); e != api.OK {
			return 0, e
		}
	}
	return x.takes(&slip{n, 0, flags}), api.OK
}

func (x *paper) Close(fd int) api.Errno {
	o := x.held[fd]
	if o == nil {
		return api.ErrFd
	}
	delete(x.held, fd)
	if x.open(o.inode) {
		return api.OK
	}
	if st, e := x.m.StatAt(o.inode); e != api.OK || st.Links > 0 {
		return e
	}
	return x.m.Release(o.inode)
}

func (x *paper) Dup(fd int) (int, api.Errno) {
	if x.held[fd] == nil {
		return 0, api.ErrFd
	}
	if len(x.held) == 16 {
		return 0, api.ErrFds
	}
	return x.takes(x.held[fd]), api.OK
}

func (x *paper) Read(fd, n int) (string, api.Errno) {
	o := x.held[fd]
	if o == nil {
		return "", api.ErrFd
	}
	if o.flags%2 == 0 {
		return "", api.ErrAccess
	}
	s, e := x.m.ReadAt(o.inode, o.place, n)
	if e == api.OK {
		o.place += len(s)
	}
	return s, e
}

func (x *paper) Write(fd int, s string) (int, api.Errno) {
	o := x.held[fd]
	if o == nil {
		return 0, api.ErrFd
	}
	if o.flags/2%2 == 0 {
		return 0, api.ErrAccess
	}
	place := o.place
	if o.flags/32 == 1 {
		st, e := x.m.StatAt(o.inode)
		if e != api.OK {
			return 0, e
		}
		place = st.Size
	}
	if e := x.m.WriteAt(o.inode, place, s); e != api.OK {
		return 0, e
	}
	o.place = place + len(s)
	return len(s), api.OK
}

func (x *paper) Seek(fd, off, whence int) (int, api.Errno) {
	o := x.held[fd]
	if o == nil {
		return 0, api.ErrFd
	}
	if whence < 0 || whence > 2 {
		return 0, api.ErrInval
	}
	st, e := x.m.StatAt(o.inode)
	if e != api.OK {
		return 0, e
	}
	sum := big.NewInt(int64(off))
	sum.Add(sum, big.NewInt(int64([]int{0, o.place, st.Size}[whence])))
	if sum.Sign() < 0 || sum.Cmp(big.NewInt(api.MaxFile)) > 0 {
		return 0, api.ErrInval
	}
	o.place = int(sum.Int64())
	return o.place, api.OK
}

func (x *paper) Cut(fd, size int) api.Errno {
	o := x.held[fd]
	if o == nil {
		return api.ErrFd
	}
	if o.flags/2%2 == 0 {
		return api.ErrAccess
	}
	return x.m.CutAt(o.inode, size)
}

func (x *paper) Stat(fd int) (api.Stat, api.Errno) {
	o := x.held[fd]
	if o == nil {
		return api.Stat{}, api.ErrFd
	}
	return x.m.StatAt(o.inode)
}

func (x *paper) Do(c api.Call) api.Answer {
	switch c.Kind {
	case api.CallUnlink:
		_, e := x.m.Unlink(c.Path, x.open(x.m.Do(lstat(c.Path).c).Stat.Inode))
		return api.Answer{Err: e}
	case api.CallRename:
		_, e := x.m.Rename(c.Path, c.Other, x.open(x.m.Do(lstat(c.Other).c).Stat.Inode))
		return api.Answer{Err: e}
	}
	return x.m.Do(c)
}

// drawer draws any calls, most often of what is there and open.
type drawer struct {
	*rand.Rand
	names []string
	big   bool // bytes are written in all places that there are, not the first ones alone
}

func (a *drawer) path() string {
	if a.Intn(30) == 0 {
		return []string{"/", "", "a", "/none/x", "/a/x", "/d/..", "/.", "/" + rep("x", 28), "/d"}[a.Intn(9)]
	}
	return a.names[a.Intn(len(a.names))]
}

// number is most often one that is open.
func (a *drawer) number(f face) int {
	l := f.Numbers()
	switch {
	case a.Intn(25) == 0:
		return noNumbers()[a.Intn(16)]
	case a.Intn(25) == 0 || len(l) == 0:
		return a.Intn(16)
	}
	return l[a.Intn(len(l))]
}

func (a *drawer) flags() int {
	if a.Intn(25) == 0 {
		return a.Intn(80) - 8
	}
	flags := []int{r, w, rw, rw, rw}[a.Intn(5)]
	if flags != r && a.Intn(8) == 0 {
		flags |= trunc
	}
	if flags != r && a.Intn(3) == 0 {
		flags |= behind
	}
	return flags | a.Intn(2)*create | a.Intn(8)/7*excl
}

func (a *drawer) text() string {
	n := []int{0, 1, 3, 10, 100, 511, 512, 513, 1000, 3000}[a.Intn(10)]
	switch a.Intn(40) {
	case 0:
		n = 16385
	case 1, 2:
		n = 16384
	}
	return rep(string(rune('a'+a.Intn(26)))+"-", (n+1)/2)[:n]
}

func (a *drawer) count() int {
	return []int{0, 1, 2, 10, 512, 700, 5000, 16384, 16385, -1}[a.Intn(10)]
}

// off is an offset for a whence.
func (a *drawer) off(whence int) int {
	switch {
	case a.Intn(12) == 0:
		l := farOffs()
		return l[a.Intn(len(l))]
	case a.big && a.Intn(3) == 0:
		return a.Intn(api.MaxFile + 2)
	case whence == api.FromStart:
		return a.Intn(7000)
	}
	return a.Intn(3000) - 1500
}

// change is a call of the tree.
func (a *drawer) change() op {
	switch a.Intn(14) {
	case 0:
		return creates(a.path())
	case 1, 2, 3, 4:
		return unlink(a.path())
	case 5, 6, 7:
		return rename(a.path(), a.path())
	case 8, 9:
		return link(a.path(), a.path())
	case 10:
		return symlink(a.path()+"/", a.path())
	case 11:
		return truncate(a.path(), a.Intn(4000)-100)
	case 12:
		return []op{mkdir(a.path()), rmdir(a.path()), rmdir("/d"), mkdir("/d")}[a.Intn(4)]
	}
	return writeTo(a.path(), a.Intn(3000), a.text())
}

// look is a call of the tree that tells something.
func (a *drawer) look() op {
	kind := []int{0, api.CallStat, api.CallLstat, api.CallReaddir, api.CallReadlink, api.CallRead, api.CallRoom, 16}[a.Intn(8)]
	return do(api.Call{Kind: kind, Path: a.path(), Offset: a.Intn(2000), Size: a.count()})
}

// any is any call of a table.
func (a *drawer) any(f face) op {
	fd := a.number(f)
	switch k := a.Intn(100); {
	case k < 14:
		return opens(a.path(), a.flags())
	case k < 25:
		return closes(fd)
	case k < 29:
		return dups(fd)
	case k < 42:
		return reads(fd, a.count())
	case k < 58:
		return writes(fd, a.text())
	case k < 70:
		whence := a.Intn(30)
		if whence > 3 {
			whence %= 3
		}
		return seeks(fd, a.off(whence), whence)
	case k < 76:
		return cuts(fd, a.off(0)-10)
	case k < 79:
		return stats(fd)
	case k < 93:
		return a.change()
	}
	return a.look()
}

// row is a row of any calls of a table, beside the same on paper.
type row struct {
	*drawer
	*desk
	x     *paper
	count map[string]int
}

func (a *row) both(p op) {
	a.t.Helper()
	got, want := a.call(p), p.on(a.x)
	if !same(got, want) {
		a.t.Fatalf("chapter 21: %v: %v, want %v", p, got, want)
	}
	a.count[fmt.Sprint(p.name, " ", got.e)]++
}

// hold holds all numbers, inodes and names against those on paper, and the disk against check: it has just the orphans that are open.
func (a *row) hold() {
	a.t.Helper()
	if got, want := places(a.desk), places(a.x); got != want {
		a.t.Fatalf("chapter 21: open are %s, want %s", got, want)
	}
	var orphans []int
	for n := 1; n <= a.x.m.Do(room().c).Room.Inodes; n++ {
		got, e := a.f.StatAt(n)
		want, wantE := a.x.m.StatAt(n)
		if got != want || e != wantE || all(a.f, n) != all(a.x.m, n) {
			a.t.Fatalf("P21.10: the inode %d is %+v (%d), want %+v (%d), or has other bytes", n, got, e, want, wantE)
		}
		if e != api.OK || want.Kind != api.KindFile || want.Links > 0 {
			continue
		}
		orphans = append(orphans, n)
		if !a.x.open(n) {
			a.t.Fatalf("P21.10: the inode %d has no name and isn't open", n)
		}
	}
	for _, p := range []op{readdir("/"), readdir("/d"), room()} {
		a.both(p)
	}
	a.right("a row of calls", orphans...)
	if len(orphans) > 0 {
		a.count["orphans"]++
	}
}

// end closes all numbers, in any order, and holds what is left.
func (a *row) end() {
	a.t.Helper()
	l := a.Numbers()
	a.Shuffle(len(l), func(i, j int) { l[i], l[j] = l[j], l[i] })
	for _, fd := range l {
		a.both(closes(fd))
	}
	a.right("all Closes")
	a.hold()
}

// Chapter 21: rows of any calls, held against the chapter word by word over the file system in memory; behind all Closes check finds nothing.
func TestRows(t *testing.T) {
	t.Parallel()
	count := map[string]int{}
	for seed := range int64(120) {
		draw := rand.New(rand.NewSource(seed))
		n := []int{128, 128, 200, 400}[draw.Intn(4)]
		names := [][]string{{"/a", "/b", "/d/a"}, {"/a", "/b", "/c", "/d/a", "/d/b", "/l", "/d/l"}, strings.Fields("/a /b /c /e /f /g /h /i /j /k /l /m /d/a /d/b /d/c /d/e /d/f /d/g /d/h")}[draw.Intn(3)]
		a := &row{&drawer{draw, names, draw.Intn(3) == 0}, fresh(t, n), newPaper(t, n), count}
		a.both(mkdir("/d"))
		for i := range 300 {
			a.both(a.any(a.x))
			if i%15 == 0 {
				a.hold()
			}
			if draw.Intn(100) == 0 {
				a.end()
			}
		}
		a.end()
	}
	for _, what := range []string{
		"Open E0", "Open E1", "Open E90", "Open E150", "Open E160", "Open E161", "Open E170", "Open E211", "Close E0", "Close E210", "Dup E0", "Dup E210", "Dup E211", "Read E0", "Read E1", "Read E210", "Read E212",
		"Write E0", "Write E1", "Write E90", "Write E120", "Write E210", "Write E212", "Seek E0", "Seek E1", "Seek E210", "Cut E0", "Cut E1", "Cut E120", "Cut E210", "Cut E212", "Stat E0", "Stat E210",
		"Do E0", "Do E1", "Do E90", "Do E150", "Do E160", "Do E170", "orphans",
	} {
		if count[what] < 3 {
			t.Errorf("%s came out %d times only", what, count[what])
		}
	}
}

// leaf is a file as a plain row of bytes; how many names it has.
type leaf struct {
	bytes []byte
	names int
}

// hand is an open file of one.
type hand struct {
	*leaf
	place, flags int
}

// plainRow is a row of calls in which numbers of few files write and read in turns, beside plain rows of bytes.
type plainRow struct {
	*rand.Rand
	*desk
	names map[string]*leaf
	hands [16]*hand
}

func (a *plainRow) name() string { return []string{"/a", "/b", "/c"}[a.Intn(3)] }

// number is one that is open; -1: there is none.
func (a *plainRow) number() int {
	l := a.Numbers()
	if len(l) == 0 {
		return -1
	}
	return l[a.Intn(len(l))]
}

func (a *plainRow) lowest() int { return slices.Index(a.hands[:], nil) }

func (a *plainRow) open() {
	a.t.Helper()
	s, flags := a.name(), []int{r, w, rw, rw, w | behind, rw | behind, rw | trunc}[a.Intn(7)]|create
	fd := a.lowest()
	if fd < 0 {
		a.refuses(api.ErrFds, opens(s, flags))
		return
	}
	a.opens(fd, s, flags)
	if a.names[s] == nil {
		a.names[s] = &leaf{names: 1}
	}
	if flags&trunc != 0 {
		a.names[s].bytes = nil
	}
	a.hands[fd] = &hand{a.names[s], 0, flags}
}

func (a *plainRow) dup(fd int) {
	a.t.Helper()
	if next := a.lowest(); next < 0 {
		a.refuses(api.ErrFds, dups(fd))
	} else {
		a.tells(dups(fd), next)
		a.hands[next] = a.hands[fd]
	}
}

func (a *plainRow) close(fd int) {
	a.t.Helper()
	a.gives(closes(fd), out{})
	a.hands[fd] = nil
}

func (a *plainRow) read(fd int) {
	a.t.Helper()
	h, n := a.hands[fd], a.Intn(1500)
	if h.flags&r == 0 {
		a.refuses(api.ErrAccess, reads(fd, n))
		return
	}
	from := min(h.place, len(h.bytes))
	want := h.bytes[from:min(from+n, len(h.bytes))]
	a.reads(fd, n, string(want))
	h.place += len(want)
}

func (a *plainRow) write(fd int) {
	a.t.Helper()
	h, s := a.hands[fd], rep(fmt.Sprint(fd, " writes ", a.Intn(1000), ";"), 200)[:a.Intn(1200)*a.Intn(2)]
	if h.flags&w == 0 {
		a.refuses(api.ErrAccess, writes(fd, s))
		return
	}
	if h.flags&behind != 0 {
		h.place = len(h.bytes)
	}
	a.tells(writes(fd, s), len(s))
	if s == "" {
		return
	}
	if more := h.place + len(s) - len(h.bytes); more > 0 {
		h.bytes = append(h.bytes, make([]byte, more)...)
	}
	copy(h.bytes[h.place:], s)
	h.place += len(s)
}

func (a *plainRow) seek(fd int) {
	a.t.Helper()
	h, whence := a.hands[fd], a.Intn(3)
	place := a.Intn(min(6000, len(h.bytes)+800))
	a.tells(seeks(fd, place-[]int{0, h.place, len(h.bytes)}[whence], whence), place)
	h.place = place
}

func (a *plainRow) cut(fd int) {
	a.t.Helper()
	h, n := a.hands[fd], a.Intn(5000)
	if h.flags&w == 0 {
		a.refuses(api.ErrAccess, cuts(fd, n))
		return
	}
	a.gives(cuts(fd, n), out{})
	h.bytes = append(h.bytes, make([]byte, 5000)...)[:n:n]
}

func (a *plainRow) unlink() {
	a.t.Helper()
	s := a.name()
	if a.names[s] == nil {
		a.refuses(api.ErrNone, unlink(s))
		return
	}
	a.gives(unlink(s), out{})
	a.names[s].names--
	delete(a.names, s)
}

func (a *plainRow) rename() {
	a.t.Helper()
	s, other := a.name(), a.name()
	if a.names[s] == nil {
		a.refuses(api.ErrNone, rename(s, other))
		return
	}
	a.gives(rename(s, other), out{})
	if a.names[s] == a.names[other] {
		return
	}
	if a.names[other] != nil {
		a.names[other].names--
	}
	a.names[other] = a.names[s]
	delete(a.names, s)
}

func (a *plainRow) link() {
	a.t.Helper()
	s, other := a.name(), a.name()
	switch {
	case a.names[s] == nil:
		a.refuses(api.ErrNone, link(s, other))
	case a.names[other] != nil:
		a.refuses(api.ErrExist, link(s, other))
	default:
		a.gives(link(s, other), out{})
		a.names[other] = a.names[s]
		a.names[s].names++
	}
}

func (a *plainRow) step() {
	a.t.Helper()
	fd := a.number()
	switch k := a.Intn(40); {
	case fd < 0 || k < 4:
		a.open()
	case k < 6:
		a.dup(fd)
	case k < 9:
		a.close(fd)
	case k < 17:
		a.read(fd)
	case k < 25:
		a.write(fd)
	case k < 31:
		a.seek(fd)
	case k < 33:
		a.cut(fd)
	case k < 36:
		a.unlink()
	case k < 38:
		a.rename()
	default:
		a.link()
	}
}

// hold holds each number's place and what it is of, and each name's bytes.
func (a *plainRow) hold() {
	a.t.Helper()
	for fd, h := range a.hands {
		if h == nil {
			continue
		}
		a.at(fd, h.place)
		st, e := a.Stat(fd)
		if e != api.OK || st.Size != len(h.bytes) || st.Links != h.names || all(a.f, st.Inode) != string(h.bytes) {
			a.t.Fatalf("P21.10: the number %d is of %+v (%d), want %d bytes and %d names", fd, st, e, len(h.bytes), h.names)
		}
	}
	var names []string
	for s, l := range a.names {
		a.holds(s, string(l.bytes))
		names = append(names, s[1:])
	}
	slices.Sort(names)
	a.gives(readdir("/"), out{a: api.Answer{Names: names}})
}

// left holds that behind all Closes just what has a name takes room. (The root has one block.)
func (a *plainRow) left() {
	a.t.Helper()
	for fd, h := range a.hands {
		if h != nil {
			a.close(fd)
		}
	}
	a.right("all Closes")
	blocks, inodes := 1, 1
	counted := map[int]bool{}
	for s := range a.names {
		if st := a.Do(lstat(s).c).Stat; !counted[st.Inode] {
			counted[st.Inode] = true
			blocks, inodes = blocks+st.Blocks, inodes+1
		}
	}
	all := a.Do(room().c).Room
	a.free(all.Blocks-blocks, all.Inodes-inodes)
}

// P21.5 to P21.10: numbers of few inodes write and read in turns, with and without names, held against plain rows of bytes.
func TestPlainRows(t *testing.T) {
	t.Parallel()
	for seed := range int64(60) {
		a := &plainRow{Rand: rand.New(rand.NewSource(seed)), desk: fresh(t, 700), names: map[string]*leaf{}}
		for i := range 400 {
			a.step()
			if i%10 == 0 {
				a.hold()
			}
		}
		a.hold()
		a.left()
		a.hold()
	}
}

// P21.10: two open files of one inode, one that writes and one that reads, take turns through a whole file.
func TestTurns(t *testing.T) {
	b := fresh(t, 300)
	b.opens(0, "/f", w|create|behind)
	b.opens(1, "/f", r)
	b.does(unlink("/f"))
	draw := rand.New(rand.NewSource(7))
	var sent, got bytes.Buffer
	for sent.Len() < 70000 {
		s := pattern(1 + draw.Intn(3000))
		b.tells(writes(0, s), len(s))
		sent.WriteString(s)
		for range draw.Intn(3) {
			part, e := b.Read(1, draw.Intn(4000))
			if e != api.OK {
				t.Fatal(e)
			}
			got.WriteString(part)
		}
		if !bytes.HasPrefix(sent.Bytes(), got.Bytes()) {
			t.Fatalf("P21.10: what is read isn't what was written")
		}
	}
	for {
		part, e := b.Read(1, api.MaxIO)
		if e != api.OK || part == "" {
			break
		}
		got.WriteString(part)
	}
	if got.String() != sent.String() {
		t.Errorf("P21.10: %d bytes were written, %d read", sent.Len(), got.Len())
	}
	b.closesAll()
	b.free(b.Do(room().c).Room.Blocks-1, b.Do(room().c).Room.Inodes-1)
}

// W1: any numbers at all end, and none panics.
func TestAnyNumbers(t *testing.T) {
	b := four(t, 128, 1000)
	numbers := []int{math.MinInt, math.MinInt + 1, -1 << 32, -17, -16, -1, 0, 1, 2, 3, 4, 15, 16, 63, 64, 512, 8459264, 8459265, 1 << 32, math.MaxInt - 1, math.MaxInt}
	x := newPaper(t, 128)
	for _, p := range []op{creates("/f"), writeTo("/f", 0, pattern(1000)), opens("/f", rw), opens("/f", r), opens("/f", w), opens("/f", w|behind)} {
		p.on(x)
	}
	a := &row{&drawer{Rand: rand.New(rand.NewSource(1))}, b, x, map[string]int{}}
	for _, fd := range numbers {
		for _, n := range numbers {
			a.both(reads(fd, n))
			a.both(cuts(fd, n))
			for _, k := range numbers {
				a.both(seeks(fd, n, k))
			}
		}
		a.both(opens("/f", fd))
		a.both(do(api.Call{Kind: fd, Path: "/f", Other: "/f", Offset: fd, Size: fd}))
	}
	for _, fd := range numbers {
		a.both(stats(fd))
		a.both(dups(fd))
		a.both(closes(fd))
	}
	a.hold()
	a.end()
}
