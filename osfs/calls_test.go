package osfs_test

import (
	"slices"
	"testing"

	"bole/api"
)

// paths are such as lead to each kind of thing of a grove, to nothing, and such as are none.
func paths() []string {
	return []string{
		"/", "/d", "/d/", "/d/e", "/f", "/d/g", "/l", "/ld", "/ld/g", "/ld/", "/gone", "/round", "/empty", "//d//./e/.", "/d/..", "/d/e/../g", "/ld/..", "/ld/../f", "/none", "/d/none", "/none/x",
		"/f/x", "/f/..", "/gone/x", "/round/x", "", "d", "/.", "/..", "/\x00", "/" + rep("x", 27), "/" + rep("x", 28), rep("/x", 32), rep("/x", 33), rep("/", 1024), rep("/", 1025), "/d/" + rep("/", 1021) + "e",
	}
}

// P22.7: Stat, Lstat, ReadDir of every path: what the call below answers, or its error and nothing else.
func TestLooks(t *testing.T) {
	b := grove(t)
	for _, down := range []bool{false, true} {
		if down {
			b.d.Crash(nil)
		}
		before := b.steps()
		for _, p := range paths() {
			for _, c := range []struct {
				op   string
				kind int
				ask  func(string) (api.Stat, error)
			}{{"stat", api.CallStat, b.Stat}, {"lstat", api.CallLstat, b.Lstat}} {
				want := b.call(c.kind, p, "")
				got, err := c.ask(p)
				if got != want.Stat {
					t.Errorf("P22.7: %s of %.60q: %+v, want %+v", c.op, p, got, want.Stat)
				}
				if want.Err == api.OK {
					good(t, c.op, err)
				} else {
					fails(t, err, c.op, p, want.Err)
				}
			}
			want := b.call(api.CallReaddir, p, "")
			got, err := b.ReadDir(p)
			if !slices.Equal(got, want.Names) {
				t.Errorf("P22.7: ReadDir of %.60q: %q, want %q", p, got, want.Names)
			}
			if want.Err == api.OK {
				good(t, "readdir", err)
			} else {
				fails(t, err, "readdir", p, want.Err)
			}
		}
		if b.steps() != before {
			t.Errorf("P22.7: a call that tells something has steps")
		}
	}
}

// P22.7: Stat follows a symbolic link at the end, Lstat doesn't, ReadDir does.
func TestLooksAtLinks(t *testing.T) {
	b := grove(t)
	f, _ := b.Stat("/f")
	d, _ := b.Stat("/d")
	if f.Kind != api.KindFile || f.Size != 10 || d.Kind != api.KindDir || d.Links != 3 {
		t.Errorf("P22.7: Stat: %+v, %+v", f, d)
	}
	if s, err := b.Stat("/l"); s != f || err != nil {
		t.Errorf("P22.7: Stat of a symbolic link: %+v, %v", s, err)
	}
	if s, err := b.Stat("/ld"); s != d || err != nil {
		t.Errorf("P22.7: Stat of a symbolic link: %+v, %v", s, err)
	}
	for _, p := range []string{"/l", "/ld", "/gone", "/round"} {
		if s, err := b.Lstat(p); s.Kind != api.KindLink || err != nil {
			t.Errorf("P22.7: Lstat of %s: %+v, %v", p, s, err)
		}
	}
	_, err := b.Stat("/gone")
	fails(t, err, "stat", "/gone", 160)
	_, err = b.Stat("/round")
	fails(t, err, "stat", "/round", 162)
	for _, p := range []string{"/d", "/ld", "/ld/"} {
		if l, err := b.ReadDir(p); !slices.Equal(l, []string{"e", "g"}) || err != nil {
			t.Errorf("P22.7: ReadDir of %s: %q, %v", p, l, err)
		}
	}
	if l, err := b.ReadDir("/d/e"); len(l) != 0 || err != nil {
		t.Errorf("P22.7: ReadDir of an empty directory: %q, %v", l, err)
	}
	for _, p := range []string{"/f", "/l"} {
		_, err := b.ReadDir(p)
		fails(t, err, "readdir", p, 161)
	}
	_, err = b.ReadDir("/gone")
	fails(t, err, "readdir", "/gone", 160)
}

// P22.7: ReadDir tells the names in the order of their bytes.
func TestReadDirOrder(t *testing.T) {
	b := fresh(t, 1024)
	names := []string{" ", "!", "-", "...", "0", "10", "9", "A", "Z", "a", "a!", "a.b", "aa", "ab", "b", "\x01", "\x7f", "\x80", "é", "\xff", "\xff\xff", rep("z", 27)}
	for i, name := range slices.Backward(names) {
		if i%2 == 0 {
			b.lays("/" + name + "=")
		} else {
			b.lays("/" + name + "/")
		}
	}
	slices.Sort(names)
	if l, err := b.ReadDir("/"); !slices.Equal(l, names) || err != nil {
		t.Errorf("P22.7: ReadDir: %q, %v", l, err)
	}
}

// P22.7: Mkdir of every path: as the call below.
func TestMkdir(t *testing.T) {
	image := grove(t).d.Image()
	made := 0
	for _, p := range paths() {
		b, twin := opened(t, image), opened(t, image)
		err := b.Mkdir(p)
		if want := twin.call(api.CallMkdir, p, ""); want.Err != api.OK {
			fails(t, err, "mkdir", p, want.Err)
		} else {
			good(t, "Mkdir", err)
			made++
		}
		if string(b.d.Image()) != string(twin.d.Image()) {
			t.Errorf("P22.7: Mkdir(%.60q) leaves another disk", p)
		}
	}
	if made != 3 {
		t.Errorf("P22.7: %d directories were made", made)
	}
	b := grove(t)
	b.d.Arm(api.Crash{At: 1})
	fails(t, b.Mkdir("/new"), "mkdir", "/new", 30)
	fails(t, b.Mkdir("/newer"), "mkdir", "/newer", 30)
	fails(t, b.Mkdir("/."), "mkdir", "/.", 1)
}

// P22.7: Rename of every two paths: as the call below, and the error has both.
func TestRename(t *testing.T) {
	image := grove(t).d.Image()
	seen := map[api.Errno]int{}
	for _, old := range paths() {
		for _, other := range paths() {
			b, twin := opened(t, image), opened(t, image)
			err := b.Rename(old, other)
			want := twin.call(api.CallRename, old, other)
			seen[want.Err]++
			if want.Err != api.OK {
				failsTwo(t, err, "rename", old, other, want.Err)
			} else {
				good(t, "Rename", err)
			}
			if b.steps() != twin.steps() || b.tree("/") != twin.tree("/") {
				t.Errorf("P22.7: Rename(%.60q, %.60q) leaves another tree", old, other)
			}
		}
	}
	for _, e := range []api.Errno{api.OK, api.ErrInval, api.ErrTooLong, api.ErrNone, api.ErrNotDir, api.ErrLoop, api.ErrIsDir, api.ErrNotEmpty, api.ErrBusy} {
		if seen[e] == 0 {
			t.Errorf("no Rename was to answer %d", e)
		}
	}
	b := grove(t)
	b.d.Arm(api.Crash{At: 1})
	failsTwo(t, b.Rename("/f", "/new"), "rename", "/f", "/new", 30)
	failsTwo(t, b.Rename("/d", "/newer"), "rename", "/d", "/newer", 30)
	failsTwo(t, b.Rename("/f", "new"), "rename", "/f", "new", 1)
}

// P22.7: what is open stays, though Rename gives its name to another.
func TestRenameOntoAnOpenFile(t *testing.T) {
	b := fresh(t, 128).lays("/a=old", "/b=new")
	x := b.open("/a", r)
	good(t, "Rename", b.Rename("/b", "/a"))
	reads(t, x, 9, []byte("old"), nil)
	b.readsAll("/a", []byte("new"))
	good(t, "Close", x.Close())
	b.stands("/a=new")
	b.right("the Close")
}
