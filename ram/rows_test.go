package ram_test

import (
	"fmt"
	"maps"
	"math"
	"math/rand"
	"slices"
	"strings"
	"testing"

	"bole/api"
)

// row is a row of any calls on a tree, beside the plain one, and beside a disk if there is one.
type row struct {
	*box
	r     *rand.Rand
	m     *plain
	k     *disk
	names string // one of its letters is a name
	tops  []string
	far   bool // bytes are written at all indices that there are, not the first ones alone
	count map[string]int
}

func (a *row) one(l ...string) string { return l[a.r.Intn(len(l))] }

func (a *row) name() string {
	switch a.r.Intn(40) {
	case 0:
		return a.one(rep("n", 27), "...", ".x", "\xff")
	case 1:
		return a.one(rep("n", 28), "..", ".", "\x00")
	}
	return a.names[a.r.Intn(len(a.names)):][:1]
}

// known is a path of something that is there.
func (a *row) known() string {
	s, n := "", 1
	for {
		l := slices.Sorted(maps.Keys(a.m.things[n].names))
		if len(l) == 0 || s != "" && a.r.Intn(3) == 0 {
			return "/" + strings.TrimPrefix(s, "/")
		}
		name := l[a.r.Intn(len(l))]
		s, n = s+"/"+name, a.m.things[n].names[name]
	}
}

// path is any path: of what is there, of a name in that, of a few names.
func (a *row) path() string {
	top := a.one(a.tops...)
	switch a.r.Intn(12) {
	case 0:
		return "/"
	case 1, 2, 3, 4:
		return a.known()
	case 5, 6, 7:
		return a.known() + "/" + a.name()
	case 8:
		return a.known() + "/../" + a.name() + "/"
	case 9:
		return top + "/" + a.name()
	case 10:
		return top + "/" + a.name() + "/" + a.name()
	}
	return "/" + a.name()
}

// paths are two, most often of what is there and of a name that may come.
func (a *row) paths() (string, string) {
	switch a.r.Intn(4) {
	case 0, 1:
		return a.path(), a.path()
	case 2:
		return a.known(), a.one(a.tops...) + "/" + a.name()
	}
	return a.known(), a.known() + "/" + a.name()
}

func (a *row) text() string {
	switch a.r.Intn(10) {
	case 0:
		return ""
	case 1:
		return rep("/", 400+a.r.Intn(700))
	case 2:
		return a.known() + rep("/.", 300)
	case 3, 4:
		return "../" + a.name()
	case 5, 6:
		return strings.TrimPrefix(a.path(), "/")
	}
	return a.path()
}

// number is an inode's number, most often of one that is there.
func (a *row) number() int {
	if a.r.Intn(12) == 0 {
		l := noInodes(a.m.g.Count)
		return l[a.r.Intn(len(l))]
	}
	l := slices.Sorted(maps.Keys(a.m.things))
	if a.r.Intn(3) > 0 {
		return l[a.r.Intn(len(l))]
	}
	return 1 + a.r.Intn(a.m.g.Count-1)
}

// off is a place in a file: about the edges of pieces and tables, wrong ones too.
func (a *row) off() int {
	switch a.r.Intn(30) {
	case 0:
		return []int{-1, math.MinInt, math.MaxInt, 1 << 40}[a.r.Intn(4)]
	case 1, 2, 3:
		if a.far {
			return 8459264 - []int{-1, 0, 1, 600, 16384}[a.r.Intn(5)]
		}
	case 4, 5, 6, 7:
		if a.far {
			return 512 * (a.r.Intn(2000))
		}
	}
	return []int{0, 0, 1, 500, 511, 512, 513, 1024, 1500, 4608, 5119, 5120, 5121, 6000, 70655, 70656, 71000, 136191, 136192}[a.r.Intn(19)] + a.r.Intn(2)*a.r.Intn(600)
}

func (a *row) data() string {
	n := []int{0, 1, 3, 100, 511, 512, 513, 1000, 1024, 3000}[a.r.Intn(10)]
	switch a.r.Intn(30) {
	case 0:
		n = 16385
	case 1, 2:
		n = 16384
	case 3:
		return zeros(n)
	}
	return rep(string(rune('a'+a.r.Intn(26)))+"-", (n+1)/2)[:n]
}

func (a *row) length() int {
	return []int{0, 1, 10, 512, 1000, 5000, 16384, 16384, 16385, -1}[a.r.Intn(10)]
}

// change is a call that may change the tree.
func (a *row) change() op {
	hold := a.r.Intn(2) == 0
	switch k := a.r.Intn(100); {
	case k < 13:
		return create(a.path())
	case k < 25:
		return mkdir(a.path())
	case k < 31:
		return symlink(a.text(), a.path())
	case k < 39:
		return link(a.paths())
	case k < 42:
		return unlink(a.path())
	case k < 47:
		return unlinkAs(a.path(), hold)
	case k < 51:
		return rmdir(a.path())
	case k < 56:
		return rename(a.paths())
	case k < 66:
		old, other := a.paths()
		return renameAs(old, other, hold)
	case k < 72:
		return open(a.path(), a.r.Intn(3) > 0, hold)
	case k < 79:
		return write(a.path(), a.off(), a.data())
	case k < 87:
		return writeAt(a.number(), a.off(), a.data())
	case k < 91:
		return truncate(a.path(), a.off())
	case k < 96:
		return cutAt(a.number(), a.off())
	}
	return release(a.number())
}

// tell is a call that tells something.
func (a *row) tell() op {
	switch a.r.Intn(9) {
	case 0:
		return stat(a.path())
	case 1:
		return lstat(a.path())
	case 2:
		return readdir(a.path())
	case 3:
		return readlink(a.path())
	case 4:
		return room()
	case 5:
		return statAt(a.number())
	case 6:
		return read(a.path(), a.off(), a.length())
	case 7:
		return do(api.Call{Kind: []int{-1, 0, 16, 1 << 32}[a.r.Intn(4)], Path: a.path()})
	}
	return readAt(a.number(), a.off(), a.length())
}

// both makes a call here and there.
func (a *row) both(p op) {
	a.t.Helper()
	got, want := p.on(a), p.on(a.m)
	if !same(got, want) {
		a.t.Fatalf("P18.2: %v: %v, want %v", p, got, want)
	}
	if a.k != nil {
		if other := p.on(a.k); !same(got, other) {
			a.t.Fatalf("P0.9: %v: %v, on a disk %v", p, got, other)
		}
	}
	name := p.name
	if name == "Do" {
		name = fmt.Sprint(p.c.Kind)
	}
	a.count[fmt.Sprint(name, " ", want.e)]++
	if (name == "Unlink" || name == "Rename") && want.n > 0 {
		a.count[name+" orphan"]++
	}
}

// hold holds all of the tree against the plain one.
func (a *row) hold() {
	a.t.Helper()
	if got, want := sight(a), sight(a.m); got != want {
		a.t.Fatalf("P18.2: the tree is\n%s\nwant\n%s", got, want)
	}
}

// fork goes on with a Copy; what is done to the other one is not to be seen.
func (a *row) fork() {
	other := a.Copy()
	if a.r.Intn(2) == 0 {
		a.FS, other = other, a.FS
	}
	for range 8 {
		a.change().on(other)
	}
	a.hold()
}

func (a *row) run(steps int) {
	a.t.Helper()
	for i := range steps {
		if a.r.Intn(4) == 0 {
			a.both(a.tell())
		}
		a.both(a.change())
		if i%8 == 0 {
			a.hold()
		}
		if a.r.Intn(30) == 0 {
			a.fork()
		}
	}
	a.hold()
	if a.k != nil {
		if got, want := sight(a), sight(a.k); got != want {
			a.t.Fatalf("P0.9: the tree is\n%s\non a disk\n%s", got, want)
		}
	}
}

// came holds that each of these came out often enough to mean something.
func came(t *testing.T, count map[string]int, what ...string) {
	t.Helper()
	for _, w := range what {
		if count[w] < 3 {
			t.Errorf("%s came out %d times only", w, count[w])
		}
	}
}

// rows does rows of any calls with their seeds.
func rows(t *testing.T, seeds, steps int, withDisk bool) map[string]int {
	count := map[string]int{}
	for seed := range int64(seeds) {
		r := rand.New(rand.NewSource(seed))
		n := []int{128, 128, 140, 190, 300}[r.Intn(5)]
		a := &row{box: fresh(t, n), r: r, m: newPlain(n), names: []string{"abc", "abcdefghijklmnopqrstuvwxyz"}[r.Intn(2)], tops: []string{""}, far: r.Intn(4) == 0, count: count}
		if withDisk {
			a.k = mkfs(t, n)
		}
		a.run(steps)
	}
	return count
}

// P18.2, P18.3: rows of any calls against the chapter's words said plainly: bytes, numbers, names, Stat, Room, the first error; Copies on the way.
func TestRows(t *testing.T) {
	count := rows(t, 130, 250, false)
	came(t, count,
		"1 E0", "1 E1", "1 E90", "1 E130", "1 E150", "1 E160", "1 E161", "1 E162",
		"2 E0", "2 E1", "2 E90", "2 E150", "2 E160", "2 E161",
		"3 E0", "3 E1", "3 E160", "3 E161", "3 E170",
		"4 E0", "4 E1", "4 E90", "4 E120", "4 E160", "4 E161", "4 E170",
		"5 E0", "5 E1", "5 E120", "5 E160", "5 E161", "5 E170",
		"6 E0", "6 E1", "6 E160", "6 E161", "6 E170",
		"7 E0", "7 E1", "7 E160", "7 E161", "7 E171", "7 E172",
		"8 E0", "8 E1", "8 E160", "8 E161", "8 E170", "8 E172",
		"9 E0", "9 E1", "9 E150", "9 E160", "9 E161", "9 E173",
		"10 E0", "10 E1", "10 E90", "10 E130", "10 E150", "10 E160", "10 E161",
		"11 E0", "11 E1", "11 E160", "12 E0", "12 E160", "12 E161", "13 E0", "13 E160", "14 E0", "14 E160", "14 E161", "15 E0", "0 E1", "16 E1",
		"Unlink E0", "Unlink orphan", "Unlink E1", "Unlink E160", "Unlink E161", "Unlink E170",
		"Rename E0", "Rename orphan", "Rename E1", "Rename E160", "Rename E161", "Rename E170", "Rename E171", "Rename E172",
		"Open E0", "Open E1", "Open E90", "Open E150", "Open E160", "Open E161", "Open E170",
		"ReadAt E0", "ReadAt E1", "ReadAt E110", "ReadAt E170", "WriteAt E0", "WriteAt E1", "WriteAt E90", "WriteAt E110", "WriteAt E120", "WriteAt E170",
		"CutAt E0", "CutAt E1", "CutAt E110", "CutAt E120", "CutAt E170", "StatAt E0", "StatAt E110", "Release E0", "Release E1", "Release E110")
}

// P0.9, P18.2, P18.5: the same beside a disk, which the layers below have made: each call answers there what it answers here, within its Bound of steps.
func TestRowsOnADisk(t *testing.T) {
	count := rows(t, 60, 200, true)
	came(t, count, "1 E0", "1 E90", "2 E0", "3 E0", "4 E0", "4 E90", "5 E0", "6 E0", "7 E0", "8 E0", "9 E0", "10 E0", "11 E0", "12 E0", "13 E0", "14 E0", "15 E0",
		"Unlink orphan", "Rename orphan", "Open E0", "ReadAt E0", "WriteAt E0", "WriteAt E90", "CutAt E0", "StatAt E0", "Release E0")
}

// P18.2, D7: the same where names lie deep.
func TestDeepRows(t *testing.T) {
	count := map[string]int{}
	for seed := range int64(60) {
		r := rand.New(rand.NewSource(seed))
		a := &row{box: fresh(t, 520), r: r, m: newPlain(520), names: "ab", tops: []string{"", "/s29", "/s30", "/s31", "/s32"}, count: count}
		if seed < 12 {
			a.k = mkfs(t, 520)
		}
		for i := range 32 {
			a.both(mkdir(rep("/a", i+1)))
		}
		for i := 29; i <= 32; i++ {
			a.both(symlink(rep("/a", i), fmt.Sprint("/s", i)))
		}
		a.run(120)
	}
	came(t, count, "1 E0", "1 E130", "2 E0", "2 E130", "10 E130", "9 E0", "9 E130", "8 E0", "8 E130", "Rename E0", "Rename E1", "Rename E130", "Open E130")
}

// P18.2: the same on a tree that is nearly full, in which every call is short of something.
func TestCrowdedRows(t *testing.T) {
	count := map[string]int{}
	for seed := range int64(200) {
		r := rand.New(rand.NewSource(seed))
		a := &row{box: fresh(t, 128), r: r, m: newPlain(128), names: "abcdefghijklmnopqrstuvwxyz", tops: []string{"", "/d"}, count: count}
		if seed < 40 {
			a.k = mkfs(t, 128)
		}
		a.both(mkdir("/d"))
		for i := range r.Intn(18) {
			a.both(create("/f"))
			a.both(link("/f", fmt.Sprint("/d/", i)))
		}
		for k := 0; a.m.left() > r.Intn(5); k++ {
			a.both(write("/f", k*size, "x"))
			if k > 30 {
				break
			}
			a.both(create("/f"))
		}
		a.run(150)
	}
	came(t, count, "1 E90", "2 E90", "4 E90", "8 E90", "9 E90", "10 E90", "Rename E90", "Open E90", "WriteAt E90")
}
