package osfs_test

import (
	"errors"
	"fmt"
	"slices"
	"strings"
	"testing"

	"bole/api"
	"bole/osfs"
)

// visit is what fn was told.
type visit struct {
	path string
	s    api.Stat
	err  error
}

// walks makes a Walk, and answers what fn was told. says is what fn answers; nil: nothing ever.
func (b *desk) walks(root string, says func(v visit) error) ([]visit, error) {
	b.t.Helper()
	var l []visit
	err := b.Walk(root, func(p string, s api.Stat, err error) error {
		l = append(l, visit{p, s, err})
		if says == nil {
			return nil
		}
		return says(l[len(l)-1])
	})
	return l, err
}

// pathsOf are those that were told, blanks between.
func pathsOf(l []visit) string {
	var s []string
	for _, v := range l {
		s = append(s, v.path)
	}
	return strings.Join(s, " ")
}

// at is a function that answers an error at one path.
func at(path string, err error) func(v visit) error {
	return func(v visit) error {
		if v.path == path {
			return err
		}
		return nil
	}
}

// P22.10: of each kind of thing, by each kind of path: which paths are told, each with its Stat and no error.
func TestWalk(t *testing.T) {
	b := fresh(t, 256).lays(wood()...)
	// names is what is told of /d, reached by some path.
	names := func(p string) string {
		s := p
		for _, name := range strings.Fields("a d d/d d/d/d d/d/d/x d/d/l d/l e l n z") {
			s += " " + strings.TrimSuffix(p, "/") + "/" + name
		}
		return s
	}
	before := b.steps()
	for _, c := range []struct{ root, want string }{
		{"/", "/ /a " + names("/d") + " /e /l /m /z"},
		{"/d", names("/d")},
		{"/d/", names("/d/")},
		{"/d/d", "/d/d /d/d/d /d/d/d/d /d/d/d/d/x /d/d/d/l /d/d/l"},
		{"//d//./d/", "//d//./d/ //d//./d/d //d//./d/d/d //d//./d/d/d/x //d//./d/d/l //d//./d/l"},
		{"/d/e/../e", "/d/e/../e"},
		{"/e/../d/d/d", "/e/../d/d/d /e/../d/d/d/d /e/../d/d/d/d/x /e/../d/d/d/l"},
		{"/e/..", "/e/.. /e/../a " + names("/e/../d") + " /e/../e /e/../l /e/../m /e/../z"},
		{"/l/d/d", "/l/d/d /l/d/d/d /l/d/d/d/x /l/d/d/l"},
		{"/e", "/e"}, {"/e/", "/e/"}, {"/e/.", "/e/."}, {"/a", "/a"}, {"/a/", "/a/"}, {"/a/.", "/a/."}, {"/l", "/l"}, {"/l/", "/l/"}, {"/d/l", "/d/l"}, {"/z", "/z"}, {"/d/d/d/d/x", "/d/d/d/d/x"},
		{"//", "// //a " + names("//d") + " //e //l //m //z"},
	} {
		l, err := b.walks(c.root, nil)
		if got := pathsOf(l); got != c.want || err != nil {
			t.Errorf("P22.10: Walk(%q) tells %q, %v, want %q", c.root, got, err, c.want)
		}
		for _, v := range l {
			if a := b.call(api.CallLstat, v.path, ""); v.err != nil || v.s != a.Stat || a.Err != api.OK {
				t.Errorf("P22.10: Walk(%q) tells of %q %+v, %v, want %+v", c.root, v.path, v.s, v.err, a.Stat)
			}
		}
	}
	if b.steps() != before {
		t.Errorf("P22.10: Walk has steps")
	}
	b.numbers(0)
}

// P22.10: of what isn't there, or is no path: one call of fn with the error; what it answers is the answer, but SkipDir and SkipAll.
func TestWalkOfNothing(t *testing.T) {
	b := fresh(t, 256).lays(wood()...)
	wrapped := &osfs.PathError{Err: osfs.SkipDir}
	for _, c := range []struct {
		root string
		e    api.Errno
	}{{"/none", 160}, {"/none/", 160}, {"/none/x", 160}, {"/z/x", 160}, {"/a/x", 161}, {"", 1}, {"d", 1}, {"/d\x00", 1}, {"/" + rep("x", 28), 130}, {rep("/", 1025), 130}} {
		for _, c2 := range []struct{ says, want error }{{nil, nil}, {osfs.SkipDir, nil}, {osfs.SkipAll, nil}, {errOwn, errOwn}, {osfs.EOF, osfs.EOF}, {wrapped, wrapped}} {
			l, err := b.walks(c.root, at(c.root, c2.says))
			if err != c2.want {
				t.Errorf("P22.10: Walk(%.60q) where fn answers %v: %v", c.root, c2.says, err)
			}
			if len(l) != 1 || l[0].path != c.root || l[0].s != (api.Stat{}) {
				t.Errorf("P22.10: Walk(%.60q) tells %v", c.root, l)
				continue
			}
			fails(t, l[0].err, "lstat", c.root, c.e)
		}
		l, err := b.walks(c.root, func(v visit) error { return v.err })
		if len(l) != 1 || err != l[0].err {
			t.Errorf("P22.10: the error that fn hands on is another one: %v", err)
		}
	}
}

// isDir is whether something that was told is a directory, by its Stat.
func (v visit) isDir() bool { return v.s.Kind == api.KindDir }

// parent is the path ahead of the last slash; "" of the root and what lies right in it.
func parent(p string) string { return p[:max(strings.LastIndex(p, "/"), 0)] }

// skipped is what of a Walk of all is left when fn answers an error at the place i, and what the Walk answers, by the words at the end of P22.10.
func skipped(all []visit, i int, says error) ([]visit, error) {
	v, ahead, rest := all[i], all[:i+1], all[i+1:]
	left := func(gone func(p string) bool) []visit {
		l := slices.Clone(ahead)
		for _, o := range rest {
			if !gone(o.path) {
				l = append(l, o)
			}
		}
		return l
	}
	switch {
	case says == nil:
		return all, nil
	case says == osfs.SkipAll:
		return ahead, nil
	case says != osfs.SkipDir:
		return ahead, says
	case v.path == "/":
		return ahead, nil
	case v.isDir() || v.err != nil:
		return left(func(p string) bool { return under(p, v.path) }), nil
	}
	return left(func(p string) bool { return under(p, parent(v.path)) }), nil
}

// everywhere makes Walks in which fn answers each error at each single place.
func everywhere(t *testing.T, b *desk, root string) {
	t.Helper()
	all, err := b.walks(root, nil)
	good(t, "Walk", err)
	for i := range all {
		for _, says := range []error{nil, osfs.SkipDir, osfs.SkipAll, errOwn, osfs.EOF, osfs.ErrNotExist, &osfs.PathError{Err: osfs.SkipDir}, fmt.Errorf("%w", osfs.SkipAll), errors.Join(osfs.SkipDir), all[i].err, errors.New("osfs: skip this directory")} {
			want, end := skipped(all, i, says)
			got, err := b.walks(root, at(all[i].path, says))
			if pathsOf(got) != pathsOf(want) || err != end {
				t.Errorf("P22.10: Walk(%q) with %v at %q: %q, %v, want %q, %v", root, says, all[i].path, pathsOf(got), err, pathsOf(want), end)
			}
		}
	}
}

// P22.10: SkipDir, SkipAll and other errors at each single place, first and last, of files, directories and symbolic links; and one that is SkipDir to errors.Is alone.
func TestWalkSkips(t *testing.T) {
	b := fresh(t, 256).lays(wood()...)
	for _, root := range []string{"/", "/d", "/d/d", "/e", "/a", "/l"} {
		everywhere(t, b, root)
	}
}

// P22.10: the same where CallReaddir is refused of a directory, and CallLstat of things in a directory: fn is told, with the Stat of the one, and no Stat of the other.
func TestWalkRefused(t *testing.T) {
	b := fresh(t, 256).lays(wood()...).lays("/y/", "/y/x=")
	b.spoilsCells("/d/d")
	b.spoilsCells("/y")
	for _, p := range []string{"/a", "/d/a", "/d/z", "/m"} {
		b.spoils(p, noTables) // /d/n is the same file as /a
	}
	l, err := b.walks("/", nil)
	if got := pathsOf(l); got != "/ /a /d /d/a /d/d /d/e /d/l /d/n /d/z /e /l /m /y /z" || err != nil {
		t.Fatalf("P22.10: Walk tells %q, %v", got, err)
	}
	for _, v := range l {
		a := b.call(api.CallLstat, v.path, "")
		switch {
		case v.path == "/d/d" || v.path == "/y":
			fails(t, v.err, "readdir", v.path, 140)
		case a.Err != api.OK:
			fails(t, v.err, "lstat", v.path, 100)
		case v.err != nil:
			t.Errorf("P22.10: of %s: %v", v.path, v.err)
		}
		if v.s != a.Stat {
			t.Errorf("P22.10: of %s: %+v, want %+v", v.path, v.s, a.Stat)
		}
	}
	everywhere(t, b, "/")
	everywhere(t, b, "/d")
	// The root itself.
	for _, p := range []string{"/d/d", "/y", "/a"} {
		everywhere(t, b, p)
		l, err := b.walks(p, func(v visit) error { return v.err })
		if len(l) != 1 || err == nil || err != l[0].err {
			t.Errorf("P22.10: Walk(%q) tells %q, %v", p, pathsOf(l), err)
		}
	}
}

// P22.10: two errors one behind the other: each has its own effect.
func TestWalkSkipsTwice(t *testing.T) {
	b := fresh(t, 256).lays(wood()...)
	for _, c := range []struct {
		says map[string]error
		want string
		err  error
	}{
		{map[string]error{"/d/d": osfs.SkipDir, "/d/l": osfs.SkipDir}, "/ /a /d /d/a /d/d /d/e /d/l /e /l /m /z", nil},
		{map[string]error{"/d/d/d/d/x": osfs.SkipDir, "/d/d/l": osfs.SkipDir}, "/ /a /d /d/a /d/d /d/d/d /d/d/d/d /d/d/d/d/x /d/d/d/l /d/d/l /d/e /d/l /d/n /d/z /e /l /m /z", nil},
		{map[string]error{"/d/d/d": osfs.SkipDir, "/d/e": osfs.SkipDir, "/d/z": osfs.SkipDir, "/l": osfs.SkipDir}, "/ /a /d /d/a /d/d /d/d/d /d/d/l /d/e /d/l /d/n /d/z /e /l", nil},
		{map[string]error{"/d/d": osfs.SkipDir, "/d/e": osfs.SkipAll}, "/ /a /d /d/a /d/d /d/e", nil},
		{map[string]error{"/d/d/l": osfs.SkipDir, "/d/l": errOwn}, "/ /a /d /d/a /d/d /d/d/d /d/d/d/d /d/d/d/d/x /d/d/d/l /d/d/l /d/e /d/l", errOwn},
	} {
		l, err := b.walks("/", func(v visit) error { return c.says[v.path] })
		if pathsOf(l) != c.want || err != c.err {
			t.Errorf("P22.10: with %v: %q, %v, want %q, %v", c.says, pathsOf(l), err, c.want, c.err)
		}
	}
}

// P22.10: an error of fn that == can't compare is handed on as it is.
func TestWalkRoughError(t *testing.T) {
	b := fresh(t, 256).lays(wood()...)
	for _, p := range []string{"/", "/a", "/d/d/d/d/x", "/none"} {
		_, err := b.walks(p, at(p, rough{7}))
		if x, ok := err.(rough); !ok || len(x) != 1 || x[0] != 7 {
			t.Errorf("P22.10: the error of fn is %v", err)
		}
	}
}

// P22.10: fn changes the tree beside and below where it is: names of a directory are those that stood ahead of its call, and what a name is is asked when it comes.
func TestWalkOfWhatFnChanges(t *testing.T) {
	lists := []string{"/b=1", "/d/", "/d/b=2", "/d/c/", "/d/c/x=3", "/d/e=4", "/f=5"}
	const all = "/ /b /d /d/b /d/c /d/c/x /d/e /f"
	for _, c := range []struct {
		about string
		at    string
		does  func(b *desk) error
		want  string // with a ! behind those of which CallLstat is refused
	}{
		{"a name in a directory that has been read", "/", func(b *desk) error { return b.WriteFile("/a", nil) }, all},
		{"a name in a directory that is being gone through", "/d/b", func(b *desk) error { return b.WriteFile("/d/bb", nil) }, all},
		{"a name below what comes", "/b", func(b *desk) error { return b.WriteFile("/d/a", nil) }, "/ /b /d /d/a /d/b /d/c /d/c/x /d/e /f"},
		{"a name below, told of its directory", "/d/c", func(b *desk) error { return b.WriteFile("/d/c/y", nil) }, all},
		{"a tree below what comes", "/d/b", func(b *desk) error { return b.MkdirAll("/d/c/k/l") }, "/ /b /d /d/b /d/c /d/c/k /d/c/k/l /d/c/x /d/e /f"},
		{"what comes next goes", "/d/b", func(b *desk) error { return b.RemoveAll("/d/c") }, "/ /b /d /d/b /d/c! /d/e /f"},
		{"the first of a directory goes", "/d", func(b *desk) error { return b.Remove("/d/b") }, "/ /b /d /d/b! /d/c /d/c/x /d/e /f"},
		{"the last of a directory goes", "/d/c/x", func(b *desk) error { return b.Remove("/d/e") }, "/ /b /d /d/b /d/c /d/c/x /d/e! /f"},
		{"all of a directory goes, and it", "/d", func(b *desk) error { return b.RemoveAll("/d") }, "/ /b /d /d/b! /d/c! /d/e! /f"},
		{"where it is goes", "/d/b", func(b *desk) error { return b.Remove("/d/b") }, all},
		{"where it is goes, with all beside it", "/d/b", func(b *desk) error { return b.RemoveAll("/d") }, "/ /b /d /d/b /d/c! /d/e! /f"},
		{"what lies behind goes", "/f", func(b *desk) error { return b.RemoveAll("/d") }, all},
		{"all goes", "/", func(b *desk) error { b.RemoveAll("/"); return nil }, "/ /b! /d! /f!"},
		{"what comes next has another name", "/d/b", func(b *desk) error { return b.Rename("/d/c", "/d/a") }, "/ /b /d /d/b /d/c! /d/e /f"},
		{"the directory has another name", "/d/b", func(b *desk) error { return b.Rename("/d", "/q") }, "/ /b /d /d/b /d/c! /d/e! /f"},
		{"a file is a directory then", "/d/c", func(b *desk) error { b.Remove("/f"); return b.MkdirAll("/f/g") }, all + " /f/g"},
		{"a directory is a file then", "/d/b", func(b *desk) error { b.RemoveAll("/d/c"); return b.WriteFile("/d/c", nil) }, "/ /b /d /d/b /d/c /d/e /f"},
		{"a directory is a symbolic link then", "/b", func(b *desk) error { b.RemoveAll("/d"); b.lays("/d>/"); return nil }, "/ /b /d /f"},
	} {
		b := fresh(t, 256).lays(lists...)
		var got []string
		_, err := b.walks("/", func(v visit) error {
			mark := ""
			if v.err != nil {
				mark = "!"
				fails(t, v.err, "lstat", v.path, 160)
			}
			got = append(got, v.path+mark)
			if v.path == c.at {
				good(t, c.about, c.does(b))
			} else if a := b.call(api.CallLstat, v.path, ""); a.Stat != v.s {
				t.Errorf("P22.10: where %s: of %s is told %+v, want %+v", c.about, v.path, v.s, a.Stat)
			}
			return nil
		})
		if strings.Join(got, " ") != c.want || err != nil {
			t.Errorf("P22.10: where %s: %q, %v, want %q", c.about, got, err, c.want)
		}
		b.right(c.about)
	}
}

// P22.10: the power goes in the midst: every name that was read and hasn't come is told, with ErrDown.
func TestWalkDown(t *testing.T) {
	for _, c := range []struct{ at, want string }{
		{"/", "/ /a! /d! /e! /l! /m! /z!"},
		{"/d/d/d", "/ /a /d /d/a /d/d /d/d/d /d/d/d/d! /d/d/d/l! /d/d/l! /d/e! /d/l! /d/n! /d/z! /e! /l! /m! /z!"},
		{"/d/z", "/ /a /d /d/a /d/d /d/d/d /d/d/d/d /d/d/d/d/x /d/d/d/l /d/d/l /d/e /d/l /d/n /d/z /e! /l! /m! /z!"},
	} {
		b := fresh(t, 256).lays(wood()...)
		var got []string
		_, err := b.walks("/", func(v visit) error {
			mark := ""
			if v.err != nil {
				mark = "!"
				fails(t, v.err, "lstat", v.path, 30)
			}
			got = append(got, v.path+mark)
			if v.path == c.at {
				b.d.Crash(nil)
			}
			return nil
		})
		if strings.Join(got, " ") != c.want || err != nil {
			t.Errorf("P22.10: the power goes at %s: %q, %v, want %q", c.at, got, err, c.want)
		}
		l, err := b.walks("/", nil)
		if len(l) != 1 || l[0].path != "/" || err != nil {
			t.Errorf("P22.10: with the power out Walk tells %q, %v", pathsOf(l), err)
		}
		fails(t, l[0].err, "lstat", "/", 30)
	}
}

// P22.10: a Walk within a Walk, and files that fn opens and leaves open.
func TestWalkWithin(t *testing.T) {
	b := fresh(t, 256).lays(wood()...)
	want, _ := b.walks("/", nil)
	inner := 0
	got, err := b.walks("/", func(v visit) error {
		l, err := b.walks("/", nil)
		if pathsOf(l) != pathsOf(want) || err != nil {
			t.Errorf("P22.10: a Walk within a Walk tells %q, %v", pathsOf(l), err)
		}
		inner++
		if v.s.Kind == api.KindFile {
			b.open(v.path, r)
		}
		return nil
	})
	if pathsOf(got) != pathsOf(want) || err != nil || inner != len(want) {
		t.Errorf("P22.10: a Walk with others within it tells %q, %v", pathsOf(got), err)
	}
	b.numbers(6)
}

// P22.12, W1: a panic of fn goes through, and leaves all as it was.
func TestWalkPanics(t *testing.T) {
	b := fresh(t, 256).lays(wood()...)
	for _, p := range []string{"/", "/d/d/d/d/x", "/none"} {
		func() {
			defer func() {
				if x := recover(); x != "so it goes" {
					t.Errorf("W1: the panic of fn is %v", x)
				}
			}()
			b.Walk(p, func(string, api.Stat, error) error { panic("so it goes") })
			t.Errorf("W1: the panic of fn doesn't go through")
		}()
	}
	if l, err := b.walks("/", nil); len(l) != 18 || err != nil {
		t.Errorf("P22.10: behind a panic Walk tells %q, %v", pathsOf(l), err)
	}
}

// P22.10: names so long that the paths below are too long for the calls below: fn is told of each.
func TestWalkTooLong(t *testing.T) {
	b := fresh(t, 128).lays("/d/", "/d/a/", "/d/a/"+rep("y", 27)+"=1", "/d/b=2", "/d/"+rep("x", 27)+"=3")
	root := rep("/", 1010) + "d"
	l, err := b.walks(root, nil)
	want := []string{root, root + "/a", root + "/a/" + rep("y", 27), root + "/b", root + "/" + rep("x", 27)}
	if err != nil || pathsOf(l) != strings.Join(want, " ") {
		t.Fatalf("P22.10: Walk tells %d paths, %v", len(l), err)
	}
	for i, v := range l {
		if i == 2 || i == 4 {
			fails(t, v.err, "lstat", v.path, 130)
		} else {
			good(t, "Walk", v.err)
		}
	}
}

// P22.11: a directory of many names: each is told once, in the order of its bytes.
func TestWalkOfMany(t *testing.T) {
	b := fresh(t, 4096)
	var want []string
	for i := range 40 {
		p := fmt.Sprintf("/%c%d", 'A'+i*7%50, i)
		want = append(want, p)
		if i%3 > 0 {
			b.lays(p + "=")
			continue
		}
		b.lays(p + "/")
		for k := range 5 {
			q := fmt.Sprintf("%s/%c", p, 'z'-k*3)
			want = append(want, q)
			b.lays(q + "=")
		}
	}
	slices.SortFunc(want, func(a, b string) int { return slices.Compare(strings.Split(a, "/"), strings.Split(b, "/")) })
	l, err := b.walks("/", nil)
	if got := pathsOf(l); got != "/ "+strings.Join(want, " ") || err != nil {
		t.Errorf("P22.11: Walk tells %q, %v, want %q", got, err, want)
	}
}
