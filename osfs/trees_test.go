package osfs_test

import (
	"fmt"
	"slices"
	"strings"
	"testing"

	"bole/api"
)

// P22.8: of '/', of what stands in part or whole, twice, with '.', '..' and '//' among it.
func TestMkdirAll(t *testing.T) {
	for _, c := range []struct {
		laid string
		name string
		want string
	}{
		{"", "/", ""},
		{"", "/./", ""},
		{"", "/..", ""},
		{"", "//", ""},
		{"", "/a", "/a/"},
		{"", "/a/b/c", "/a/ /a/b/ /a/b/c/"},
		{"", "//a/.//b/./", "/a/ /a/b/"},
		{"", "/a/../b", "/a/ /b/"},
		{"", "/a/b/../../c/d", "/a/ /a/b/ /c/ /c/d/"},
		{"", "/../../a", "/a/"},
		{"", "/a/..", "/a/"},
		{"/a/ /a/x=1", "/a/b", "/a/ /a/b/ /a/x=1"},
		{"/a/ /a/b/ /a/b/x=1", "/a/b", "/a/ /a/b/ /a/b/x=1"},
		{"/a/ /l>a", "/l", "/a/ /l>a"},
		{"/a/ /l>a", "/l/b/c", "/a/ /a/b/ /a/b/c/ /l>a"},
		{"/a/ /a/b/ /l>a/b", "/l/../c", "/a/ /a/b/ /a/c/ /l>a/b"},
		{"/l>/", "/l/l/l/a", "/a/ /l>/"},
		{"", rep("/x", 32), ""},
		{"", "/" + rep("y", 27) + "/" + rep("z", 27), "/" + rep("y", 27) + "/ /" + rep("y", 27) + "/" + rep("z", 27) + "/"},
	} {
		b := fresh(t, 4096).lays(strings.Fields(c.laid)...)
		if c.want == "" && strings.HasPrefix(c.name, "/x") {
			for k := range 32 {
				c.want += " " + rep("/x", k+1) + "/"
			}
		}
		good(t, "MkdirAll", b.MkdirAll(c.name))
		if got := b.tree("/"); got != strings.TrimSpace(c.want) {
			t.Errorf("P22.8: behind MkdirAll(%q) on %q the tree is %q, want %q", c.name, c.laid, got, c.want)
		}
		before := b.steps()
		good(t, "MkdirAll again", b.MkdirAll(c.name))
		if b.steps() != before {
			t.Errorf("P22.8: MkdirAll(%q) of what stands has steps", c.name)
		}
		if s, err := b.Stat(c.name); s.Kind != api.KindDir || err != nil {
			t.Errorf("P22.11: behind MkdirAll(%q) Stat is %+v, %v", c.name, s, err)
		}
		b.right("MkdirAll")
	}
}

// P22.8: what is refused, with the path of the call, and what was made by then.
func TestMkdirAllRefused(t *testing.T) {
	long := "/" + rep("x", 28)
	for _, c := range []struct {
		laid string
		name string
		path string // of the error
		e    api.Errno
		want string
	}{
		{"", "", "", 1, ""},
		{"", "a/b", "a/b", 1, ""},
		{"", "/a\x00", "/a\x00", 1, ""},
		{"", "/a/b" + long, "/a/b" + long, 130, ""},
		{"", rep("/x", 33), rep("/x", 33), 130, ""},
		{"", rep("/", 1025), rep("/", 1025), 130, ""},
		{"/f=1", "/f", "/f", 161, "/f=1"},
		{"/f=1", "//f//", "/f", 161, "/f=1"},
		{"/f=1", "/f/a/b", "/f", 161, "/f=1"},
		{"/f=1", "/./f/..", "/f", 161, "/f=1"},
		{"/f=1", "/a/../f/b", "/a/../f", 161, "/a/ /f=1"},
		{"/a/ /a/f=1", "/a//./f/b/c", "/a/f", 161, "/a/ /a/f=1"},
		{"/f=1 /l>f", "/l", "/l", 161, "/f=1 /l>f"},
		{"/f=1 /l>f", "/l/a", "/l", 161, "/f=1 /l>f"},
		{"/l>nowhere", "/l", "/l", 150, "/l>nowhere"},
		{"/l>nowhere", "/l/a", "/l", 150, "/l>nowhere"},
		{"/l>nowhere", "/a/../l/b", "/a/../l", 150, "/a/ /l>nowhere"},
		{"/l>l", "/l/a", "/l", 162, "/l>l"},
		{"/l>f/x /f=1", "/l/a", "/l", 161, "/f=1 /l>f/x"},
	} {
		b := fresh(t, 256).lays(strings.Fields(c.laid)...)
		fails(t, b.MkdirAll(c.name), "mkdir", c.path, c.e)
		if got := b.tree("/"); got != c.want {
			t.Errorf("P22.8: behind MkdirAll(%.60q) on %q the tree is %q, want %q", c.name, c.laid, got, c.want)
		}
	}
	// Deeper than names may lie, behind a symbolic link: the first name that can't be made.
	b := fresh(t, 4096)
	good(t, "MkdirAll", b.MkdirAll(rep("/x", 31)))
	b.lays("/l>" + rep("x/", 30) + "x")
	fails(t, b.MkdirAll("/l/a/b/c"), "mkdir", "/l/a/b", 130)
}

// P22.8: a CallMkdir in the midst is refused, for want of inodes or for the power: what was made stays, and the path is that of the call.
func TestMkdirAllGivesUp(t *testing.T) {
	b := fresh(t, 128)
	fails(t, b.MkdirAll(rep("/x", 20)), "mkdir", rep("/x", 15), 90)
	if s, err := b.Stat(rep("/x", 14)); s.Kind != api.KindDir || err != nil {
		t.Errorf("W2: what was made is %+v, %v", s, err)
	}
	b.right("MkdirAll")

	image := fresh(t, 128).lays("/a/").d.Image()
	seen := map[string]int{}
	for at := 1; ; at++ {
		b := opened(t, image)
		b.d.Arm(api.Crash{At: at, Keep: []bool{true, true, at%2 == 0}})
		err := b.MkdirAll("/a/b/c/d")
		if !b.d.Down() {
			good(t, "MkdirAll", err)
			break
		}
		tree := b.twin().tree("/")
		path := strings.TrimPrefix(strings.TrimSuffix(fmt.Sprint(err), ": E30"), "mkdir ")
		seen[path+" "+tree]++
		fails(t, err, "mkdir", path, 30)
	}
	want := []string{
		"/a/b /a/", "/a/b /a/ /a/b/", "/a/b/c /a/ /a/b/", "/a/b/c /a/ /a/b/ /a/b/c/", "/a/b/c/d /a/ /a/b/ /a/b/c/", "/a/b/c/d /a/ /a/b/ /a/b/c/ /a/b/c/d/",
	}
	for _, k := range want {
		if seen[k] == 0 {
			t.Errorf("no power cut left %q", k)
		}
		delete(seen, k)
	}
	if len(seen) > 0 {
		t.Errorf("power cuts in MkdirAll left %v", seen)
	}
	b = opened(t, image)
	b.d.Crash(nil)
	fails(t, b.MkdirAll("/a/b"), "mkdir", "/a", 30)
	good(t, "MkdirAll of the root, with the power out", b.MkdirAll("/"))
	fails(t, b.MkdirAll("a"), "mkdir", "a", 1)
}

// P22.9: Remove of each kind of thing.
func TestRemove(t *testing.T) {
	laid := strings.Fields("/d/ /d/e/ /d/g=1 /f=2 /l>f /ld>d /le>d/e /gone>none /round>round /n&/f")
	for _, c := range []struct {
		name  string
		gone  string // what isn't there behind it
		e     api.Errno
		about string
	}{
		{"/f", "/f=2", 0, "a file"},
		{"/n", "/n=2", 0, "one of two names"},
		{"/d/g", "/d/g=1", 0, "a file"},
		{"//d/./g//", "/d/g=1", 0, "a name with more slashes"},
		{"/ld/g", "/d/g=1", 0, "a file, by a symbolic link"},
		{"/d/e/../g", "/d/g=1", 0, "a file, by '..'"},
		{"/d/e", "/d/e/", 0, "an empty directory"},
		{"/d/e/", "/d/e/", 0, "an empty directory"},
		{"/l", "/l>f", 0, "a symbolic link to a file"},
		{"/ld", "/ld>d", 0, "a symbolic link to a directory"},
		{"/ld/", "/ld>d", 0, "a symbolic link to a directory"},
		{"/le", "/le>d/e", 0, "a symbolic link to an empty directory"},
		{"/gone", "/gone>none", 0, "a symbolic link to nothing"},
		{"/round", "/round>round", 0, "a symbolic link to itself"},
		{"/d", "", 171, "a full directory"},
		{"/", "", 172, "the root"},
		{"//", "", 172, "the root"},
		{"/none", "", 160, "nothing"},
		{"/none/x", "", 160, "nothing"},
		{"/gone/x", "", 160, "below nothing"},
		{"/f/x", "", 161, "below a file"},
		{"/round/x", "", 162, "below a symbolic link to itself"},
		{"/d/e/.", "", 1, "a directory by '.'"},
		{"/f/.", "", 1, "a file by '.'"},
		{"/f/..", "", 161, "a file and '..': the CallLstat is refused first"},
		{"/none/..", "", 160, "nothing and '..': the CallLstat is refused first"},
		{"/d/e/..", "", 1, "a directory by '..'"},
		{"/.", "", 1, "the root by '.'"},
		{"/..", "", 1, "the root by '..'"},
		{"", "", 1, "no path"},
		{"f", "", 1, "no path"},
		{"/" + rep("x", 28), "", 130, "too long a name"},
		{"/" + rep("x", 28) + "/..", "", 130, "too long a name and '..': the CallLstat is refused first"},
	} {
		b := fresh(t, 256).lays(laid...)
		before := b.steps()
		err := b.Remove(c.name)
		if c.e != 0 {
			fails(t, err, "remove", c.name, c.e)
			if b.steps() != before {
				t.Errorf("P22.9: Remove of %s is refused and has steps", c.about)
			}
		} else {
			good(t, "Remove of "+c.about, err)
		}
		want := slices.Clone(laid)
		want[9] = "/n=2"
		slices.Sort(want)
		want = slices.DeleteFunc(want, func(s string) bool { return s == c.gone })
		got := b.branch("/")
		slices.Sort(got)
		if !slices.Equal(got, want) {
			t.Errorf("P22.9: behind Remove of %s the tree is %q, want %q", c.about, got, want)
		}
		b.right("Remove")
	}
}

// P22.9: Remove with the power out, and where it goes.
func TestRemoveDown(t *testing.T) {
	for _, name := range []string{"/f", "/e"} {
		b := fresh(t, 128).lays("/f=1", "/e/")
		b.d.Arm(api.Crash{At: 2})
		fails(t, b.Remove(name), "remove", name, 30)
		fails(t, b.Remove(name), "remove", name, 30)
		fails(t, b.Remove("/"), "remove", "/", 30)
		fails(t, b.Remove(""), "remove", "", 1)
		b.twin().stands("/e/", "/f=1")
	}
}

// P22.9: a file that is open stays without a name till its last Close.
func TestRemoveAnOpenFile(t *testing.T) {
	for _, all := range []bool{false, true} {
		b := fresh(t, 128).lays("/d/", "/d/f=bytes")
		x := b.open("/d/f", rw)
		if all {
			good(t, "RemoveAll", b.RemoveAll("/d"))
			b.stands()
		} else {
			good(t, "Remove", b.Remove("/d/f"))
			b.stands("/d/")
		}
		reads(t, x, 9, []byte("bytes"), nil)
		wrote(t, x, []byte(" more"))
		x.Seek(0, api.FromStart)
		reads(t, x, 99, []byte("bytes more"), nil)
		good(t, "Close", x.Close())
		b.right("the last Close")
	}
}

// wood is a tree of some depth, with a thing of each kind at several places.
func wood() []string {
	return strings.Fields("/a=1 /d/ /d/a=2 /d/d/ /d/d/d/ /d/d/d/d/ /d/d/d/d/x=3 /d/d/d/l>/ /d/d/l>.. /d/e/ /d/l>/d /d/n&/a /d/z=4 /e/ /l>d /m=5 /z>none")
}

// woodNames are the names of a wood that stand when some have gone, as tree tells them.
func woodNames(gone func(path string) bool) string {
	var l []string
	for _, s := range wood() {
		if path, _, ok := strings.Cut(s, "&"); ok {
			s = path + "=1"
		}
		path := strings.FieldsFunc(s, func(r rune) bool { return r == '=' || r == '>' })[0]
		if !gone(strings.TrimSuffix(path, "/")) {
			l = append(l, s)
		}
	}
	return strings.Join(l, " ")
}

// under is whether a path is another one, or below it.
func under(p, top string) bool { return p == top || strings.HasPrefix(p, top+"/") }

// P22.9, P22.11: RemoveAll of each kind of thing, of trees, of what isn't there.
func TestRemoveAll(t *testing.T) {
	for _, c := range []struct {
		name string
		top  string // what is gone behind it, with all below; "": nothing is
		path string // of the error
		e    api.Errno
	}{
		{"/a", "/a", "", 0}, {"/d/n", "/d/n", "", 0}, {"/d", "/d", "", 0}, {"/d/", "/d", "", 0}, {"//d//", "/d", "", 0}, {"/./d", "/d", "", 0}, {"/d/d", "/d/d", "", 0},
		{"/d/d/d/d/", "/d/d/d/d", "", 0}, {"/d/e", "/d/e", "", 0}, {"/e", "/e", "", 0}, {"/l", "/l", "", 0}, {"/l/", "/l", "", 0}, {"/d/l", "/d/l", "", 0}, {"/z", "/z", "", 0},
		{"/l/d", "/d/d", "", 0}, {"/l/d/", "/d/d", "", 0}, {"/e/../d", "/d", "", 0}, {"/d/d/l/e", "/d/e", "", 0},
		{"/none", "", "", 0}, {"/none/x", "", "", 0}, {"/d/none", "", "", 0}, {"/z/x", "", "", 0}, {"/none/..", "", "", 0},
		{"/a/x", "", "/a/x", 161}, {"/a/..", "", "/a/..", 161}, {"", "", "", 1}, {"d", "", "d", 1}, {"/d\x00", "", "/d\x00", 1}, {"/" + rep("x", 28), "", "/" + rep("x", 28), 130},
		{"/a/.", "", "/a/.", 1}, {"/l/.", "", "/l/.", 1}, {"/e/.", "", "/e/.", 1},
	} {
		b := fresh(t, 256).lays(wood()...)
		before := b.steps()
		err := b.RemoveAll(c.name)
		if c.e != 0 {
			fails(t, err, "remove", c.path, c.e)
		} else {
			good(t, "RemoveAll of "+c.name, err)
			_, err := b.Lstat(c.name)
			fails(t, err, "lstat", c.name, 160)
		}
		if c.top == "" && b.steps() != before {
			t.Errorf("P22.9: RemoveAll(%q) takes nothing away and has steps", c.name)
		}
		if got, want := b.tree("/"), woodNames(func(p string) bool { return c.top != "" && under(p, c.top) }); got != want {
			t.Errorf("P22.9: behind RemoveAll(%q) the tree is %q, want %q", c.name, got, want)
		}
		b.right("RemoveAll")
	}
}

// P22.9: RemoveAll of a directory by a path that CallRmdir takes for no name: all that it has is gone, and the last call is refused.
func TestRemoveAllOfNoName(t *testing.T) {
	for _, c := range []struct {
		name, top string
		e         api.Errno
	}{{"/", "", 172}, {"//", "", 172}, {"/.", "", 1}, {"/..", "", 1}, {"/d/.", "/d", 1}, {"/d/./", "/d", 1}, {"/d/d/..", "/d", 1}, {"/e/..", "", 1}, {"/l/d/.", "/d/d", 1}} {
		b := fresh(t, 256).lays(wood()...)
		fails(t, b.RemoveAll(c.name), "remove", c.name, c.e)
		want := woodNames(func(p string) bool { return p != c.top && under(p, c.top) })
		switch c.name {
		case "/d/d/..":
			// Behind /d/d/../d the names that are left aren't reached any more.
			want = woodNames(func(p string) bool { return p == "/d/a" || under(p, "/d/d") })
		case "/e/..":
			want = woodNames(func(p string) bool { return p == "/a" || under(p, "/d") || p == "/e" })
		}
		if got := b.tree("/"); got != want {
			t.Errorf("P22.9: behind RemoveAll(%q) the tree is %q, want %q", c.name, got, want)
		}
	}
}

// P22.9: RemoveAll of a tree as deep as one may be.
func TestRemoveAllDeep(t *testing.T) {
	b := fresh(t, 16384)
	name := rep("y", 27)
	good(t, "MkdirAll", b.MkdirAll(rep("/"+name, 31)))
	for k := range 31 {
		good(t, "WriteFile", b.WriteFile(rep("/"+name, k+1)+"/f", []byte("x")))
		good(t, "WriteFile", b.WriteFile(rep("/"+name, k+1)+"/z", []byte("x")))
	}
	room := b.call(api.CallRoom, "", "").Room
	good(t, "RemoveAll", b.RemoveAll("/"+name))
	b.stands()
	if got := b.call(api.CallRoom, "", "").Room; got.FreeInodes != room.FreeInodes+93 || got.FreeBlocks != got.Blocks-1 {
		t.Errorf("P22.9: free are %+v, they were %+v", got, room)
	}
}

// P22.9: a path below, of a name with many slashes in it, may be too long for the calls below: the path of that call is told.
func TestRemoveAllTooLong(t *testing.T) {
	b := fresh(t, 128).lays("/d/", "/d/a/", "/d/a/b=1", "/d/"+rep("x", 27)+"=2")
	slashes := rep("/", 1010)
	fails(t, b.RemoveAll(slashes+"d/"), "remove", slashes+"d/"+rep("x", 27), 130)
	b.stands("/d/", "/d/"+rep("x", 27)+"=2")
	b.lays("/d/c/", "/d/c/"+rep("y", 27)+"=3")
	fails(t, b.RemoveAll(slashes+"d"), "remove", slashes+"d/c/"+rep("y", 27), 130)

	c := fresh(t, 128).lays("/d/", "/d/a=1", "/d/b=2")
	up := "/.." + rep("/d/..", 15)
	fails(t, c.RemoveAll(up+"/d"), "remove", up+"/d/a", 130)
	c.stands("/d/", "/d/a=1", "/d/b=2")
}

// P22.9: a call in the midst is refused: the path of that call, and the names are gone up to there, each directory behind what it has.
func TestRemoveAllGivesUp(t *testing.T) {
	image := fresh(t, 256).lays(wood()...).d.Image()
	order := strings.Fields("/d/a /d/d/d/d/x /d/d/d/d /d/d/d/l /d/d/d /d/d/l /d/d /d/e /d/l /d/n /d/z /d")
	seen := map[string]int{}
	for at := 1; ; at++ {
		b := opened(t, image)
		b.d.Arm(api.Crash{At: at})
		err := b.RemoveAll("/d")
		if !b.d.Down() {
			good(t, "RemoveAll", err)
			break
		}
		path := strings.TrimPrefix(strings.TrimSuffix(fmt.Sprint(err), ": E30"), "remove ")
		fails(t, err, "remove", path, 30)
		k := slices.Index(order, path)
		if k < 0 {
			t.Fatalf("P22.9: the power goes at %q", path)
		}
		left := func(gone int) string {
			return woodNames(func(p string) bool { return slices.Contains(order[:gone], p) })
		}
		switch got := b.twin().tree("/"); got {
		case left(k):
			seen[path]++
		case left(k + 1):
			seen[path+" behind it"]++
		default:
			t.Errorf("P22.9: the power goes in the call of %s: the tree is %q", path, got)
		}
	}
	for _, p := range order {
		if seen[p] == 0 || seen[p+" behind it"] == 0 {
			t.Errorf("the power went %d times ahead of the header of %s, and %d times behind it", seen[p], p, seen[p+" behind it"])
		}
	}
	b := opened(t, image)
	b.d.Crash(nil)
	fails(t, b.RemoveAll("/d"), "remove", "/d", 30)
	fails(t, b.RemoveAll("/none"), "remove", "/none", 30)
	fails(t, b.RemoveAll("none"), "remove", "none", 1)
}

// P22.9: a CallReaddir or a CallLstat in the midst is refused, on a disk that was spoiled.
func TestRemoveAllRefusedInItsMidst(t *testing.T) {
	b := fresh(t, 256).lays(wood()...)
	b.spoils("/d/d/d", func(x *api.Inode) { x.Direct[0] = 1 }) // then neither Lstat nor Readdir of it are taken
	fails(t, b.RemoveAll("/d"), "remove", "/d/d/d", 100)

	b = fresh(t, 256).lays(wood()...)
	b.spoilsCells("/d/d")
	_, err := b.ReadDir("/d/d")
	fails(t, err, "readdir", "/d/d", 140)
	fails(t, b.RemoveAll("/d"), "remove", "/d/d", 140)
	if _, err := b.Lstat("/d/e"); err != nil {
		t.Errorf("P22.9: what comes behind the first error is gone: %v", err)
	}
	_, err = b.Lstat("/d/a")
	fails(t, err, "lstat", "/d/a", 160)

	// The CallReaddir is what is refused, though the CallRmdir would be refused too.
	for _, c := range []struct{ name, dir string }{{"/", "/"}, {"/.", "/"}, {"/..", "/"}, {"/d/.", "/d"}} {
		b = fresh(t, 256).lays(wood()...)
		b.spoilsCells(c.dir)
		fails(t, b.RemoveAll(c.name), "remove", c.name, 140)
	}
}
