package vfs_test

import (
	"fmt"
	"math"
	"math/rand"
	"strings"
	"testing"

	"bole/api"
	"bole/ram"
)

// drawer draws any calls, most often of what a file system has.
type drawer struct {
	r     *rand.Rand
	names string // one of its letters is a name
	tops  []string
	far   bool // bytes are written at all indices that there are, not the first ones alone
}

func (a *drawer) one(l ...string) string { return l[a.r.Intn(len(l))] }

func (a *drawer) name() string {
	switch a.r.Intn(40) {
	case 0:
		return a.one(rep("n", 27), "...", ".x", "\xff")
	case 1:
		return a.one(rep("n", 28), "..", ".", "\x00")
	}
	return a.names[a.r.Intn(len(a.names)):][:1]
}

// known is a path of something that is there.
func (a *drawer) known(f face) string {
	s := ""
	for {
		l := f.Do(readdir(s + "/").c).Names
		if len(l) == 0 || s != "" && a.r.Intn(3) == 0 {
			return "/" + strings.TrimPrefix(s, "/")
		}
		s += "/" + l[a.r.Intn(len(l))]
		if f.Do(lstat(s).c).Stat.Kind != api.KindDir {
			return s
		}
	}
}

// path is any path: of what is there, of a name in that, of a few names.
func (a *drawer) path(f face) string {
	top := a.one(a.tops...)
	switch a.r.Intn(12) {
	case 0:
		return "/"
	case 1, 2, 3, 4:
		return a.known(f)
	case 5, 6, 7:
		return a.known(f) + "/" + a.name()
	case 8:
		return a.known(f) + "/../" + a.name() + "/"
	case 9:
		return top + "/" + a.name()
	case 10:
		return top + "/" + a.name() + "/" + a.name()
	}
	return "/" + a.name()
}

// paths are two, most often of what is there and of a name that may come.
func (a *drawer) paths(f face) (string, string) {
	switch a.r.Intn(4) {
	case 0, 1:
		return a.path(f), a.path(f)
	case 2:
		return a.known(f), a.one(a.tops...) + "/" + a.name()
	}
	return a.known(f), a.known(f) + "/" + a.name()
}

func (a *drawer) text(f face) string {
	switch a.r.Intn(10) {
	case 0:
		return ""
	case 1:
		return rep("/", 400+a.r.Intn(700))
	case 2:
		return a.known(f) + rep("/.", 300)
	case 3, 4:
		return "../" + a.name()
	case 5, 6:
		return strings.TrimPrefix(a.path(f), "/")
	}
	return a.path(f)
}

// number is an inode's number, most often of one that is there.
func (a *drawer) number(f face) int {
	count := f.Do(room().c).Room.Inodes + 1
	if a.r.Intn(12) == 0 {
		l := noInodes(count)
		return l[a.r.Intn(len(l))]
	}
	n := 1
	for range 6 {
		n = 1 + a.r.Intn(count-1)
		if _, e := f.StatAt(n); e == api.OK {
			break
		}
	}
	return n
}

// off is a place in a file: about the edges of pieces and tables, wrong ones too.
func (a *drawer) off() int {
	switch a.r.Intn(30) {
	case 0:
		return []int{-1, math.MinInt, math.MaxInt, 1 << 40}[a.r.Intn(4)]
	case 1, 2, 3:
		if a.far {
			return 8459264 - []int{-1, 0, 1, 600, 16384}[a.r.Intn(5)]
		}
	case 4, 5, 6, 7:
		if a.far {
			return 512 * (a.r.Intn(2000))
		}
	}
	return []int{0, 0, 1, 500, 511, 512, 513, 1024, 1500, 4608, 5119, 5120, 5121, 6000, 70655, 70656, 71000, 136191, 136192}[a.r.Intn(19)] + a.r.Intn(2)*a.r.Intn(600)
}

func (a *drawer) data() string {
	n := []int{0, 1, 3, 100, 511, 512, 513, 1000, 1024, 3000}[a.r.Intn(10)]
	switch a.r.Intn(30) {
	case 0:
		n = 16385
	case 1, 2:
		n = 16384
	case 3:
		return zeros(n)
	}
	return rep(string(rune('a'+a.r.Intn(26)))+"-", (n+1)/2)[:n]
}

func (a *drawer) length() int {
	return []int{0, 1, 10, 512, 1000, 5000, 16384, 16384, 16385, -1}[a.r.Intn(10)]
}

// change is a call that may change the tree.
func (a *drawer) change(f face) op {
	hold := a.r.Intn(2) == 0
	switch k := a.r.Intn(100); {
	case k < 13:
		return create(a.path(f))
	case k < 25:
		return mkdir(a.path(f))
	case k < 31:
		return symlink(a.text(f), a.path(f))
	case k < 39:
		return link(a.paths(f))
	case k < 42:
		return unlink(a.path(f))
	case k < 47:
		return unlinkAs(a.path(f), hold)
	case k < 51:
		return rmdir(a.path(f))
	case k < 56:
		return rename(a.paths(f))
	case k < 66:
		old, other := a.paths(f)
		return renameAs(old, other, hold)
	case k < 72:
		return open(a.path(f), a.r.Intn(3) > 0, hold)
	case k < 79:
		return write(a.path(f), a.off(), a.data())
	case k < 87:
		return writeAt(a.number(f), a.off(), a.data())
	case k < 91:
		return truncate(a.path(f), a.off())
	case k < 96:
		return cutAt(a.number(f), a.off())
	}
	return release(a.number(f))
}

// tell is a call that tells something.
func (a *drawer) tell(f face) op {
	switch a.r.Intn(9) {
	case 0:
		return stat(a.path(f))
	case 1:
		return lstat(a.path(f))
	case 2:
		return readdir(a.path(f))
	case 3:
		return readlink(a.path(f))
	case 4:
		return room()
	case 5:
		return statAt(a.number(f))
	case 6:
		return read(a.path(f), a.off(), a.length())
	case 7:
		return do(api.Call{Kind: []int{-1, 0, 16, 1 << 32}[a.r.Intn(4)], Path: a.path(f)})
	}
	return readAt(a.number(f), a.off(), a.length())
}

// any is either.
func (a *drawer) any(f face) op {
	if a.r.Intn(5) == 0 {
		return a.tell(f)
	}
	return a.change(f)
}

// row is a row of any calls on a disk, beside the same file system in memory.
type row struct {
	*drawer
	*box
	m     *ram.FS
	count map[string]int
}

func newRow(t *testing.T, r *rand.Rand, n int, names string, tops ...string) *row {
	t.Helper()
	m, e := ram.New(n)
	if e != api.OK {
		t.Fatalf("P18.1: New(%d): %d", n, e)
	}
	return &row{&drawer{r: r, names: names, tops: append(tops, ""), far: r.Intn(5) < 2}, fresh(t, n), m, map[string]int{}}
}

// both makes a call here and there.
func (a *row) both(p op) {
	a.t.Helper()
	got, want := a.call(p), p.on(a.m)
	if !same(got, want) {
		a.t.Fatalf("P0.1, P0.9: %v: %v, in memory %v", p, got, want)
	}
	a.came(p, got)
}

func (a *row) came(p op, o out) {
	name := p.name
	if name == "Do" {
		name = fmt.Sprint(p.c.Kind)
	}
	a.count[fmt.Sprint(name, " ", o.e)]++
	if o.n > 0 && (name == "Unlink" || name == "Rename") {
		a.count[name+" orphan"]++
	}
}

// hold holds all of the tree against the one in memory, and the disk against check.
func (a *row) hold() {
	a.t.Helper()
	if got, want := sight(a), sight(a.m); got != want {
		a.t.Fatalf("P0.9: the tree is\n%s\nin memory\n%s", got, want)
	}
	a.right("a row of calls")
}

// without is the tree without its orphans.
func without(m *ram.FS) *ram.FS {
	c := m.Copy()
	for _, n := range orphans(c) {
		c.Release(n)
	}
	return c
}

// remount holds that a mount of a disk opened with the same bytes answers as this one does; but its orphans are gone.
func (a *row) remount() {
	a.t.Helper()
	left := orphans(a.m)
	d := disk(a.t, a.d.Image())
	b := mounted(a.t, d)
	if len(left) == 0 && steps(d) > 0 {
		a.t.Fatalf("P0.3: a mount of what calls have left has %d steps", steps(d))
	}
	m := without(a.m)
	if got, want := sight(b), sight(m); got != want {
		a.t.Fatalf("P20.8, D11: mounted anew the tree is\n%s\nwant\n%s", got, want)
	}
	b.right("a mount")
	for range 3 {
		p := a.tell(m)
		if got, want := b.call(p), p.on(m); !same(got, want) {
			a.t.Fatalf("P20.8, D11: mounted anew %v: %v, want %v", p, got, want)
		}
		if got, want := b.call(p), a.call(p); len(left) == 0 && !same(got, want) {
			a.t.Fatalf("P20.8, D11: mounted anew %v: %v, and here %v", p, got, want)
		}
	}
	for range 4 {
		p := a.change(m)
		if got, want := b.call(p), p.on(m); !same(got, want) {
			a.t.Fatalf("P20.8, D11: mounted anew %v: %v, want %v", p, got, want)
		}
	}
	if got, want := sight(b), sight(m); got != want {
		a.t.Fatalf("P20.8, D11: mounted anew calls leave\n%s\nwant\n%s", got, want)
	}
}

// run makes so many calls; behind each few the tree is held, and mounted anew.
func (a *row) run(steps, few int) {
	a.t.Helper()
	for i := range steps {
		if a.r.Intn(4) == 0 {
			a.both(a.tell(a.m))
		}
		a.both(a.change(a.m))
		if i%few == 0 {
			a.hold()
		}
		if a.r.Intn(2*few) == 0 {
			a.remount()
		}
	}
	a.hold()
	a.remount()
}

// add counts what came out.
func add(all, count map[string]int) {
	for what, n := range count {
		all[what] += n
	}
}

// came holds that each of these came out often enough to mean something.
func came(t *testing.T, count map[string]int, what ...string) {
	t.Helper()
	for _, w := range what {
		if count[w] < 3 {
			t.Errorf("%s came out %d times only", w, count[w])
		}
	}
}

// P0.1, P0.9, P20.8, P0.5, P0.6: rows of any calls beside the file system in memory: bytes, numbers, names, Stat, Room, the first error; mounts of the same bytes on the way; of all that they leave check finds nothing but orphans.
func TestRows(t *testing.T) {
	t.Parallel()
	count := map[string]int{}
	for seed := range int64(120) {
		r := rand.New(rand.NewSource(seed))
		n := []int{128, 128, 140, 190, 300}[r.Intn(5)]
		a := newRow(t, r, n, []string{"abc", "abcdefghijklmnopqrstuvwxyz"}[r.Intn(2)])
		a.run(200, 12)
		add(count, a.count)
	}
	came(t, count,
		"1 E0", "1 E1", "1 E90", "1 E130", "1 E150", "1 E160", "1 E161", "1 E162",
		"2 E0", "2 E1", "2 E90", "2 E150", "2 E160", "2 E161",
		"3 E0", "3 E1", "3 E160", "3 E161", "3 E170",
		"4 E0", "4 E1", "4 E90", "4 E120", "4 E160", "4 E161", "4 E170",
		"5 E0", "5 E1", "5 E120", "5 E160", "5 E161", "5 E170",
		"6 E0", "6 E1", "6 E160", "6 E161", "6 E170",
		"7 E0", "7 E1", "7 E160", "7 E161", "7 E171", "7 E172",
		"8 E0", "8 E1", "8 E160", "8 E161", "8 E170", "8 E172",
		"9 E0", "9 E1", "9 E150", "9 E160", "9 E161", "9 E173",
		"10 E0", "10 E1", "10 E90", "10 E130", "10 E150", "10 E160", "10 E161",
		"11 E0", "11 E1", "11 E160", "12 E0", "12 E160", "12 E161", "13 E0", "13 E160", "14 E0", "14 E160", "14 E161", "15 E0", "0 E1", "16 E1",
		"Unlink E0", "Unlink orphan", "Unlink E1", "Unlink E160", "Unlink E161", "Unlink E170",
		"Rename E0", "Rename orphan", "Rename E1", "Rename E160", "Rename E161", "Rename E170", "Rename E171", "Rename E172",
		"Open E0", "Open E1", "Open E90", "Open E150", "Open E160", "Open E161", "Open E170",
		"ReadAt E0", "ReadAt E1", "ReadAt E110", "ReadAt E170", "WriteAt E0", "WriteAt E1", "WriteAt E90", "WriteAt E110", "WriteAt E120", "WriteAt E170",
		"CutAt E0", "CutAt E1", "CutAt E110", "CutAt E120", "CutAt E170", "StatAt E0", "StatAt E110", "Release E0", "Release E1", "Release E110")
}

// P0.1, P0.9, D7: the same where names lie deep.
func TestDeepRows(t *testing.T) {
	t.Parallel()
	count := map[string]int{}
	for seed := range int64(24) {
		r := rand.New(rand.NewSource(seed))
		a := newRow(t, r, 520, "ab", "/s29", "/s30", "/s31", "/s32")
		for i := range 32 {
			a.both(mkdir(rep("/a", i+1)))
		}
		for i := 29; i <= 32; i++ {
			a.both(symlink(rep("/a", i), fmt.Sprint("/s", i)))
		}
		a.run(120, 20)
		add(count, a.count)
	}
	came(t, count, "1 E0", "1 E130", "2 E0", "2 E130", "10 E130", "9 E0", "9 E130", "8 E0", "Rename E0", "Rename E1", "Rename E130", "Open E130")
}

// P0.1, P0.9: the same on a disk that is nearly full, in which every call is short of something.
func TestCrowdedRows(t *testing.T) {
	t.Parallel()
	count := map[string]int{}
	for seed := range int64(110) {
		r := rand.New(rand.NewSource(seed))
		a := newRow(t, r, 128, "abcdefghijklmnopqrstuvwxyz", "/d")
		a.both(mkdir("/d"))
		for i := range r.Intn(18) {
			a.both(create("/f"))
			a.both(link("/f", fmt.Sprint("/d/", i)))
		}
		for k := 0; k < 30 && a.m.Do(room().c).Room.FreeBlocks > r.Intn(5); k++ {
			a.both(write("/f", k*size, "x"))
			a.both(create("/f"))
		}
		a.run(120, 15)
		add(count, a.count)
	}
	came(t, count, "1 E90", "2 E90", "4 E90", "8 E90", "9 E90", "10 E90", "Rename E90", "Open E90", "WriteAt E90")
}
