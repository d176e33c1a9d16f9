package osfs_test

import (
	"errors"
	"fmt"
	"maps"
	"testing"

	"bole/api"
	"bole/osfs"
)

// rough is an error that == can't compare.
type rough []int

func (x rough) Error() string { return fmt.Sprint([]int(x)) }

// P22.1: errors that are put together by hand, of any Err, of none, and within one another.
func TestErrorsByHand(t *testing.T) {
	path := func(op, p string, err error) *osfs.PathError { return &osfs.PathError{Op: op, Path: p, Err: err} }
	link := func(op, old, other string, err error) *osfs.LinkError {
		return &osfs.LinkError{Op: op, Old: old, New: other, Err: err}
	}
	for _, c := range []struct {
		err  error
		text string
		in   error
	}{
		{path("open", "/a", errOwn), "open /a: own", errOwn},
		{path("open", "/a", nil), "open /a: ", nil},
		{path("", "", nil), " : ", nil},
		{path("", "", errOwn), " : own", errOwn},
		{path("a b", "c: d", osfs.EOF), "a b c: d: osfs: end", osfs.EOF},
		{path("x", "/\x00\xff", api.ErrNone), "x /\x00\xff: E160", api.ErrNone},
		{path("x", "/", errors.New("")), "x /: ", nil},
		{link("rename", "/a", "/b", errOwn), "rename /a /b: own", errOwn},
		{link("rename", "/a", "/b", nil), "rename /a /b: ", nil},
		{link("", "", "", nil), "  : ", nil},
		{link("", "", "", osfs.ErrNoRoom), "  : osfs: no room", osfs.ErrNoRoom},
		{link("a", "b", "c", api.OK), "a b c: E0", api.OK},
		{path("a", "b", link("c", "d", "e", errOwn)), "a b: c d e: own", errOwn},
		{link("a", "b", "c", path("d", "e", osfs.SkipDir)), "a b c: d e: osfs: skip this directory", osfs.SkipDir},
		{path("a", "b", path("c", "d", path("e", "f", nil))), "a b: c d: e f: ", nil},
		{link("a", "b", "c", link("d", "e", "f", api.ErrFds)), "a b c: d e f: E211", api.ErrFds},
	} {
		if c.err.Error() != c.text {
			t.Errorf("P22.1: the text is %q, want %q", c.err.Error(), c.text)
		}
		if c.in != nil && !errors.Is(c.err, c.in) {
			t.Errorf("P22.1: %q is not %v", c.text, c.in)
		}
		for _, v := range variables() {
			if errors.Is(c.err, v) != (v == c.in) {
				t.Errorf("P22.1: %q is %v: %v", c.text, v, errors.Is(c.err, v))
			}
		}
	}
}

// P22.1: Unwrap is Err as it is, whatever its type.
func TestUnwrap(t *testing.T) {
	for _, in := range []error{nil, errOwn, osfs.ErrClosed, api.ErrNone, &osfs.PathError{}, &osfs.LinkError{}} {
		p, l := &osfs.PathError{Op: "a", Path: "b", Err: in}, &osfs.LinkError{Op: "a", Old: "b", New: "c", Err: in}
		if p.Unwrap() != in || l.Unwrap() != in || errors.Unwrap(p) != in || errors.Unwrap(l) != in {
			t.Errorf("P22.1: Unwrap of %v is another", in)
		}
		if p.Op != "a" || p.Path != "b" || p.Err != in || l.Op != "a" || l.Old != "b" || l.New != "c" || l.Err != in {
			t.Errorf("P22.1: Unwrap changes an error of %v", in)
		}
	}
	p := &osfs.PathError{Op: "a", Path: "b", Err: rough{1, 2}}
	var found rough
	if p.Error() != "a b: [1 2]" || errors.Is(p, osfs.EOF) || errors.Is(p, api.ErrNone) || !errors.As(p, &found) || len(found) != 2 {
		t.Errorf("P22.1: of an error that can't be compared: %v", p)
	}
	var asPath *osfs.PathError
	var asLink *osfs.LinkError
	l := &osfs.LinkError{Op: "x", Err: p}
	if !errors.As(l, &asPath) || asPath != p || !errors.As(l, &asLink) || asLink != l || errors.As(p, &asLink) {
		t.Errorf("P22.1: errors.As finds one of the two in the other")
	}
}

// The variables of the package are eight errors, none of which is another, or an Errno.
func TestVariables(t *testing.T) {
	texts := []string{"osfs: not there", "osfs: there already", "osfs: may not be", "osfs: no room", "osfs: closed", "osfs: end", "osfs: skip this directory", "osfs: skip all"}
	for i, v := range variables() {
		if v == nil || v.Error() != texts[i] {
			t.Errorf("the variable %d is %v, want %q", i, v, texts[i])
		}
		for k, other := range variables() {
			if errors.Is(v, other) != (i == k) {
				t.Errorf("%v is %v: %v", v, other, errors.Is(v, other))
			}
		}
		if errors.As(v, new(api.Errno)) {
			t.Errorf("%v has an Errno within", v)
		}
	}
}

// What an Errno is, of each that package api has and of some that it has not: the text, what errors.Is and errors.As tell, and that == compares it. (fails holds all of that.)
func TestWhatAnErrnoIs(t *testing.T) {
	count := map[error]int{}
	for _, e := range append(errnos(), strangers()...) {
		count[meaning(e)]++
		err := osfs.ErrorOf("op", "/p", e)
		fails(t, err, "op", "/p", e)
		two := osfs.ErrorOfTwo("op", "/old", "/new", e)
		failsTwo(t, two, "op", "/old", "/new", e)
		in, within := errors.Unwrap(err), errors.Unwrap(two)
		if in != within || in != errors.Unwrap(osfs.ErrorOf("another", "", e)) || in == errors.Unwrap(osfs.ErrorOf("op", "/p", e+1)) {
			t.Errorf("An error of an operation: == tells otherwise of what is within two errors of %d", e)
		}
		if !errors.Is(err, in) || errors.Is(err, errors.Unwrap(osfs.ErrorOf("op", "/p", e+1))) {
			t.Errorf("An error of an operation: of %d errors.Is tells otherwise of what is within", e)
		}
		if map[error]int{in: 1}[within] != 1 {
			t.Errorf("An error of an operation: what is within one of %d is no key", e)
		}
		if errors.Is(err, rough{1}) || errors.Is(in, rough{1}) {
			t.Errorf("An error of an operation: %v is what can't be compared", err)
		}
		if is, ok := in.(interface{ Is(error) bool }); ok && is.Is(nil) {
			t.Errorf("An error of an operation: %v is nothing", err)
		}
	}
	if osfs.ErrorOf("op", "/p", api.OK) != nil || osfs.ErrorOfTwo("op", "/p", "/q", api.OK) != nil {
		t.Errorf("An error of an operation: OK is one")
	}
	want := map[error]int{osfs.ErrNotExist: 1, osfs.ErrExist: 2, osfs.ErrInvalid: 4, osfs.ErrNoRoom: 3, osfs.ErrClosed: 1, nil: 30 + len(strangers())}
	if !maps.Equal(count, want) {
		t.Errorf("the table has %v, want %v", count, want)
	}
}

// An error of an operation, within others that a program makes of it, is still what it is.
func TestErrorsFurtherOut(t *testing.T) {
	b := fresh(t, 128)
	_, err := b.Stat("/none")
	for _, outer := range []error{fmt.Errorf("so: %w", err), errors.Join(errOwn, err), &osfs.LinkError{Op: "a", Old: "b", New: "c", Err: err}} {
		var p *osfs.PathError
		var e api.Errno
		if !errors.Is(outer, osfs.ErrNotExist) || errors.Is(outer, osfs.ErrExist) || !errors.As(outer, &p) || p != err || !errors.As(outer, &e) || e != api.ErrNone {
			t.Errorf("P22.1: %v", outer)
		}
	}
}

// Each call's error has its Op and its path as it was handed in, or both.
func TestErrorOfEachCall(t *testing.T) {
	for _, bad := range []struct {
		path string
		e    api.Errno
	}{
		{"", 1}, {"a", 1}, {"/a\x00", 1}, {"/" + rep("x", 28), 130}, {rep("/x", 33), 130}, {"/none//./x/", 160}, {"/f/x", 161}, {"/round/x", 162},
	} {
		b := fresh(t, 128).lays("/f=bytes", "/round>round")
		before := b.steps()
		x, err := b.OpenFile(bad.path, r)
		fails(t, err, "open", bad.path, bad.e)
		data, err := b.ReadFile(bad.path)
		fails(t, err, "open", bad.path, bad.e)
		fails(t, b.WriteFile(bad.path, []byte("x")), "open", bad.path, bad.e)
		fails(t, b.Mkdir(bad.path), "mkdir", bad.path, bad.e)
		fails(t, b.Remove(bad.path), "remove", bad.path, bad.e)
		st, err := b.Stat(bad.path)
		fails(t, err, "stat", bad.path, bad.e)
		lst, err := b.Lstat(bad.path)
		fails(t, err, "lstat", bad.path, bad.e)
		names, err := b.ReadDir(bad.path)
		fails(t, err, "readdir", bad.path, bad.e)
		failsTwo(t, b.Rename(bad.path, "/n"), "rename", bad.path, "/n", bad.e)
		failsTwo(t, b.Rename("/f", bad.path), "rename", "/f", bad.path, bad.e)
		if bad.e == 160 {
			good(t, "RemoveAll", b.RemoveAll(bad.path))
		} else {
			fails(t, b.RemoveAll(bad.path), "remove", bad.path, bad.e)
		}
		err = b.Walk(bad.path, func(p string, s api.Stat, err error) error {
			fails(t, err, "lstat", bad.path, bad.e)
			if p != bad.path || s != (api.Stat{}) {
				t.Errorf("P22.10: %q, %+v", p, s)
			}
			return err
		})
		fails(t, err, "lstat", bad.path, bad.e)
		if x != nil || len(data) > 0 || st != (api.Stat{}) || lst != (api.Stat{}) || len(names) > 0 {
			t.Errorf("W2: beside an error of %q something else is answered", bad.path)
		}
		if b.steps() != before {
			t.Errorf("W2: calls that are refused have steps")
		}
		b.numbers(0)
	}
}
