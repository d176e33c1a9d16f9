package pack_test

import (
	"fmt"
	"reflect"
	"slices"
	"strings"
	"testing"

	"bole/adisk"
	"bole/api"
	"bole/fds"
	"bole/pack"
	"bole/ram"
	"bole/vfs"
)

func rep(s string, n int) string { return strings.Repeat(s, n) }

func zeros(n int) string { return rep("\x00", n) }

// short is a text as a message tells it.
func short(s string) string { return fmt.Sprintf("%.40q (%d bytes)", s, len(s)) }

// told is a list as a message tells it.
func told(l []pack.Item) string {
	s := ""
	for _, x := range l {
		pieces := fmt.Sprint(x.Pieces)
		if len(x.Pieces) > 8 {
			pieces = fmt.Sprintf("%d pieces", len(x.Pieces))
		}
		s += fmt.Sprintf(" {%.40q %d %d %s %s %d}", x.Path, x.Kind, x.Size, short(x.Data), pieces, x.Same)
		if len(s) > 500 {
			return fmt.Sprintf("%s .. (%d items)", s, len(l))
		}
	}
	return fmt.Sprintf("%s (%d items)", s, len(l))
}

// Items as they are written in a list.

func dir(path string) pack.Item { return pack.Item{Path: path, Kind: api.KindDir, Same: -1} }

func empty(path string) pack.Item { return pack.Item{Path: path, Kind: api.KindFile, Same: -1} }

func file(path string, size int, data string, pieces ...int) pack.Item {
	return pack.Item{Path: path, Kind: api.KindFile, Size: size, Data: data, Pieces: pieces, Same: -1}
}

func link(path, text string) pack.Item {
	return pack.Item{Path: path, Kind: api.KindLink, Size: len(text), Data: text, Same: -1}
}

func again(path string, kind, same int) pack.Item {
	return pack.Item{Path: path, Kind: kind, Same: same}
}

// Calls as they are written in a row.

func mkdir(path string) api.Call { return api.Call{Kind: api.CallMkdir, Path: path} }

func create(path string) api.Call { return api.Call{Kind: api.CallCreate, Path: path} }

func write(path string, off int, data string) api.Call {
	return api.Call{Kind: api.CallWrite, Path: path, Offset: off, Data: data}
}

func truncate(path string, size int) api.Call {
	return api.Call{Kind: api.CallTruncate, Path: path, Size: size}
}

func symlink(path, text string) api.Call {
	return api.Call{Kind: api.CallSymlink, Path: path, Other: text}
}

func name(old, other string) api.Call {
	return api.Call{Kind: api.CallLink, Path: old, Other: other}
}

// writes is a file's making, with a row of bytes of any length from a place on.
func writes(path string, off int, data string) []api.Call {
	row := []api.Call{create(path)}
	for len(data) > 0 {
		n := min(len(data), api.MaxIO)
		row = append(row, write(path, off, data[:n]))
		off, data = off+n, data[n:]
	}
	return row
}

// disk is a file system on a disk.
type disk struct {
	t *testing.T
	d *adisk.Disk
	*vfs.FS
}

func fresh(t *testing.T, blocks int) *disk {
	t.Helper()
	d, e := adisk.New(blocks)
	if e != api.OK || vfs.Mkfs(d) != api.OK {
		t.Fatalf("P20.1: no file system of %d blocks", blocks)
	}
	return mounted(t, d)
}

func mounted(t *testing.T, d *adisk.Disk) *disk {
	t.Helper()
	f, e := vfs.Mount(d)
	if e != api.OK {
		t.Fatalf("P20.2: Mount: %d", e)
	}
	return &disk{t, d, f}
}

// reopened is what lasts of a disk, mounted.
func reopened(t *testing.T, image []byte) *disk {
	t.Helper()
	d, e := adisk.Open(image)
	if e != api.OK {
		t.Fatalf("P3.1: Open: %d", e)
	}
	return mounted(t, d)
}

func (b *disk) steps() int {
	w, f := b.d.Steps()
	return w + f
}

func memory(t *testing.T, blocks int) *ram.FS {
	t.Helper()
	f, e := ram.New(blocks)
	if e != api.OK {
		t.Fatalf("P18.1: New(%d): %d", blocks, e)
	}
	return f
}

func lays(t *testing.T, f api.Caller, row ...api.Call) {
	t.Helper()
	for _, c := range row {
		if a := f.Do(c); a.Err != api.OK {
			t.Fatalf("%d %.60q %.60q can't be laid: %d", c.Kind, c.Path, c.Other, a.Err)
		}
	}
}

// everyKind is a new file system of each kind of caller.
func everyKind(t *testing.T, blocks int) map[string]api.Caller {
	t.Helper()
	return map[string]api.Caller{"vfs": fresh(t, blocks).FS, "ram": memory(t, blocks), "fds": fds.New(fresh(t, blocks).FS)}
}

// laid is one of each kind with the same things in it.
func laid(t *testing.T, row ...api.Call) map[string]api.Caller {
	t.Helper()
	all := everyKind(t, 1024)
	for _, f := range all {
		lays(t, f, row...)
	}
	return all
}

// same tells whether two lists are one; no Pieces are none, in either form.
func same(l, m []pack.Item) bool {
	return slices.EqualFunc(l, m, func(x, y pack.Item) bool {
		pieces := slices.Equal(x.Pieces, y.Pieces)
		x.Pieces, y.Pieces = nil, nil
		return pieces && reflect.DeepEqual(x, y)
	})
}

// tree is what Tree must answer.
func tree(t *testing.T, f api.Caller, s string) []pack.Item {
	t.Helper()
	l, e := pack.Tree(f, s)
	if e != api.OK {
		t.Fatalf("P24.1: Tree(%s): %d", short(s), e)
	}
	return l
}

// tells holds what Tree answers, of each file system, and that it is a right list.
func tells(t *testing.T, all map[string]api.Caller, s string, want ...pack.Item) {
	t.Helper()
	if wrong := plainWrong(want); wrong != "" {
		t.Fatalf("P24.1: what is wanted of Tree(%s) is no right list: %s", short(s), wrong)
	}
	for kind, f := range all {
		if l, e := pack.Tree(f, s); e != api.OK || !same(l, want) {
			t.Errorf("P24.1: %s: Tree(%s) =%s, %d, want%s, 0", kind, short(s), told(l), e, told(want))
		}
	}
}

// refuses holds that Tree answers an error, and no items.
func refuses(t *testing.T, all map[string]api.Caller, s string, want api.Errno) {
	t.Helper()
	for kind, f := range all {
		if l, e := pack.Tree(f, s); e != want || len(l) != 0 {
			t.Errorf("P24.1: %s: Tree(%s) =%s, %d, want none, %d", kind, short(s), told(l), e, want)
		}
	}
}

// puts holds what Put answers.
func puts(t *testing.T, f api.Caller, s string, l []pack.Item, want api.Errno) {
	t.Helper()
	if e := pack.Put(f, s, l); e != want {
		t.Errorf("P24.4: Put(%s,%s) = %d, want %d", short(s), told(l), e, want)
	}
}

// encoded is what Encode must answer.
func encoded(t *testing.T, l []pack.Item) []byte {
	t.Helper()
	b, e := pack.Encode(l)
	if e != api.OK {
		t.Fatalf("P24.2: Encode(%s): %d", told(l), e)
	}
	return b
}

// noPack holds that no right list has these bytes.
func noPack(t *testing.T, what string, b []byte) {
	t.Helper()
	if l, e := pack.Decode(b); e != api.ErrPack || len(l) != 0 {
		t.Errorf("P24.3: %s: Decode of %d bytes =%s, %d, want none, %d", what, len(b), told(l), e, api.ErrPack)
	}
}

// noter is a caller that notes what it is asked. It hands that on to another one; if there is none, it answers OK. What it answers may be an error in its place: refuse, if it isn't nil, is asked with how many calls there were ahead.
type noter struct {
	f      api.Caller
	asked  []api.Call
	refuse func(ahead int) api.Errno
}

func (n *noter) Do(c api.Call) api.Answer {
	ahead := len(n.asked)
	n.asked = append(n.asked, c)
	if n.refuse != nil {
		if e := n.refuse(ahead); e != api.OK {
			// What stands beside an error is not to be taken.
			return api.Answer{Err: e, N: 1, Data: "x", Stat: api.Stat{Inode: 1, Kind: api.KindDir}, Names: []string{"x"}}
		}
	}
	if n.f == nil {
		return api.Answer{}
	}
	return n.f.Do(c)
}

// refusing is a refuse that answers an error at one place.
func refusing(at int, e api.Errno) func(ahead int) api.Errno {
	return func(ahead int) api.Errno {
		if ahead == at {
			return e
		}
		return api.OK
	}
}

// someErrors are errors of all layers, and one that none has.
func someErrors() []api.Errno {
	return []api.Errno{api.ErrDown, api.ErrNone, api.ErrNotDir, api.ErrIsDir, api.ErrSpace, api.ErrExist, api.ErrCell, api.ErrRecord, api.ErrPack, api.ErrTooLong, api.ErrInval, api.ErrLinks, 999}
}
