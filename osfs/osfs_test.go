package osfs_test

import (
	"bytes"
	"errors"
	"fmt"
	"slices"
	"strings"
	"testing"

	"bole/adisk"
	"bole/api"
	"bole/check"
	"bole/fds"
	"bole/osfs"
	"bole/vfs"
)

// The flags by short names.
const (
	r      = api.ReadFlag
	w      = api.WriteFlag
	rw     = r | w
	create = api.CreateFlag
	excl   = api.ExclFlag
	trunc  = api.TruncFlag
	behind = api.AppendFlag
)

// errOwn is an error that no package of the program has.
var errOwn = errors.New("own")

func rep(s string, n int) string { return strings.Repeat(s, n) }

// pattern is so many bytes of which no two blocks are the same.
func pattern(n int) []byte {
	var s bytes.Buffer
	for i := 0; s.Len() < n; i++ {
		fmt.Fprintf(&s, "%d,", i)
	}
	return s.Bytes()[:n]
}

// short is bytes as a message tells them.
func short(b []byte) string { return fmt.Sprintf("%.40q (%d bytes)", b, len(b)) }

// variables are those of the package.
func variables() []error {
	return []error{osfs.ErrNotExist, osfs.ErrExist, osfs.ErrInvalid, osfs.ErrNoRoom, osfs.ErrClosed, osfs.EOF, osfs.SkipDir, osfs.SkipAll}
}

// errnos are those that package api has.
func errnos() []api.Errno {
	return []api.Errno{
		api.ErrInval, api.ErrRange, api.ErrDown, api.ErrBlock, api.ErrSize, api.ErrNums, api.ErrHead, api.ErrTooBig, api.ErrOver, api.ErrMark, api.ErrGeo, api.ErrSuper,
		api.ErrBit, api.ErrSpace, api.ErrFree, api.ErrPointer, api.ErrFar, api.ErrInode, api.ErrRecord, api.ErrBig, api.ErrTooLong, api.ErrCell, api.ErrExist, api.ErrNone,
		api.ErrNotDir, api.ErrLoop, api.ErrIsDir, api.ErrNotEmpty, api.ErrBusy, api.ErrPerm, api.ErrLinks, api.ErrMount, api.ErrFd, api.ErrFds, api.ErrAccess, api.ErrPattern,
		api.ErrPack, api.ErrLine, api.ErrClosed, api.ErrCommand, api.ErrScript,
	}
}

// strangers are numbers that no error of package api has, some of them right in their lower bytes.
func strangers() []api.Errno {
	return []api.Errno{-160, -1, 2, 33, 159, 163, 999, 1<<16 + 160, 1<<32 + 1}
}

// meaning is what an Errno is beside itself, as the chapter's table says it; nil: nothing more.
func meaning(e api.Errno) error {
	switch int(e) {
	case 160:
		return osfs.ErrNotExist
	case 150, 171:
		return osfs.ErrExist
	case 1, 130, 120, 212:
		return osfs.ErrInvalid
	case 90, 211, 174:
		return osfs.ErrNoRoom
	case 210:
		return osfs.ErrClosed
	}
	return nil
}

// wraps holds all that is said of an error with an Errno in it: of the one that a call answers, and of its inside.
func wraps(t *testing.T, err error, e api.Errno) {
	t.Helper()
	for _, v := range variables() {
		if errors.Is(err, v) != (v == meaning(e)) {
			t.Errorf("What an Errno is: %d: %v is %v: %v", e, err, v, errors.Is(err, v))
		}
	}
	for _, n := range slices.Concat(errnos(), strangers(), []api.Errno{api.OK}) {
		if errors.Is(err, n) != (n == e) {
			t.Errorf("What an Errno is: %d: %v is %d: %v", e, err, n, errors.Is(err, n))
		}
	}
	var found api.Errno
	if !errors.As(err, &found) || found != e {
		t.Errorf("What an Errno is: errors.As finds %d in %v, want %d", found, err, e)
	}
	if errors.Is(err, errOwn) || errors.Is(err, nil) {
		t.Errorf("What an Errno is: %v is more than it is", err)
	}
}

// inside holds what is within an error of an operation or of two paths.
func inside(t *testing.T, whole, err error, e api.Errno) {
	t.Helper()
	if err == nil || err.Error() != fmt.Sprintf("E%d", int(e)) {
		t.Errorf("An error of an operation: within %v is %v, want E%d", whole, err, int(e))
		return
	}
	if same := err; err != same || errors.Unwrap(whole) != err {
		t.Errorf("P22.1: what is within %v isn't what Unwrap tells", whole)
	}
	wraps(t, whole, e)
	wraps(t, err, e)
}

// fails holds that an error is one of an operation and a path, with this Errno.
func fails(t *testing.T, err error, op, path string, e api.Errno) {
	t.Helper()
	x, ok := err.(*osfs.PathError)
	if !ok || x == nil || x.Op != op || x.Path != path {
		t.Errorf("An error of an operation: %.200v, want %s %.200q: E%d", err, op, path, int(e))
		return
	}
	if err.Error() != fmt.Sprintf("%s %s: E%d", op, path, int(e)) {
		t.Errorf("P22.1: the text is %q", err.Error())
	}
	inside(t, err, x.Err, e)
}

// failsTwo holds that an error is one of two paths.
func failsTwo(t *testing.T, err error, op, old, other string, e api.Errno) {
	t.Helper()
	x, ok := err.(*osfs.LinkError)
	if !ok || x == nil || x.Op != op || x.Old != old || x.New != other {
		t.Errorf("An error of two paths: %.200v, want %s %.100q %.100q: E%d", err, op, old, other, int(e))
		return
	}
	if err.Error() != fmt.Sprintf("%s %s %s: E%d", op, old, other, int(e)) {
		t.Errorf("P22.1: the text is %q", err.Error())
	}
	inside(t, err, x.Err, e)
}

// isClosed holds that an error is one of a closed file.
func isClosed(t *testing.T, err error, op, name string) {
	t.Helper()
	x, ok := err.(*osfs.PathError)
	if !ok || x == nil || x.Op != op || x.Path != name || x.Err != osfs.ErrClosed {
		t.Errorf("One of a closed file: %v, want %s %s: osfs: closed", err, op, name)
		return
	}
	if err.Error() != op+" "+name+": osfs: closed" || errors.Unwrap(err) != osfs.ErrClosed {
		t.Errorf("One of a closed file: its text is %q", err.Error())
	}
	for _, v := range variables() {
		if errors.Is(err, v) != (v == osfs.ErrClosed) {
			t.Errorf("One of a closed file: it is %v: %v", v, errors.Is(err, v))
		}
	}
	if errors.Is(err, api.ErrFd) || errors.Is(err, api.ErrClosed) || errors.As(err, new(api.Errno)) {
		t.Errorf("One of a closed file has an Errno within: %v", err)
	}
}

// good holds that a call was not refused.
func good(t *testing.T, what string, err error) {
	t.Helper()
	if err != nil {
		t.Errorf("chapter 22: %s: %v", what, err)
	}
}

// desk is the calls over a table of open files, with the disk of its file system.
type desk struct {
	t     *testing.T
	d     *adisk.Disk
	table *fds.Table
	*osfs.FS
}

func mounted(t *testing.T, d *adisk.Disk) *desk {
	t.Helper()
	f, e := vfs.Mount(d)
	if e != api.OK {
		t.Fatalf("P20.2: Mount: %d; check finds %v", e, check.Image(d.Image()))
	}
	table := fds.New(f)
	return &desk{t, d, table, osfs.New(table)}
}

// fresh is the calls over a new file system.
func fresh(t *testing.T, n int) *desk {
	t.Helper()
	d, e := adisk.New(n)
	if e != api.OK || vfs.Mkfs(d) != api.OK {
		t.Fatalf("P20.1: no file system of %d blocks", n)
	}
	return mounted(t, d)
}

// opened is the calls over the file system of an image.
func opened(t *testing.T, image []byte) *desk {
	t.Helper()
	d, e := adisk.Open(image)
	if e != api.OK {
		t.Fatalf("a disk of %d bytes: %d", len(image), e)
	}
	return mounted(t, d)
}

// twin is the calls over a disk with the same bytes, with no file open.
func (b *desk) twin() *desk {
	b.t.Helper()
	return opened(b.t, b.d.Image())
}

func (b *desk) steps() int {
	w, f := b.d.Steps()
	return w + f
}

func (b *desk) flushes() int {
	_, f := b.d.Steps()
	return f
}

// call is a call of the table.
func (b *desk) call(kind int, path, other string) api.Answer {
	return b.table.Do(api.Call{Kind: kind, Path: path, Other: other})
}

// lays makes things, by the calls below: "/d/" a directory, "/f=bytes" a file, "/l>text" a symbolic link, "/n&/f" one more name of a file.
func (b *desk) lays(things ...string) *desk {
	b.t.Helper()
	for _, s := range things {
		var e api.Errno
		if path, data, ok := strings.Cut(s, "="); ok {
			b.call(api.CallCreate, path, "")
			e = b.table.Do(api.Call{Kind: api.CallWrite, Path: path, Data: data}).Err
		} else if path, text, ok := strings.Cut(s, ">"); ok {
			e = b.call(api.CallSymlink, path, text).Err
		} else if path, old, ok := strings.Cut(s, "&"); ok {
			e = b.call(api.CallLink, old, path).Err
		} else {
			e = b.call(api.CallMkdir, strings.TrimSuffix(s, "/"), "").Err
		}
		if e != api.OK {
			b.t.Fatalf("%q can't be laid: %d", s, e)
		}
	}
	return b
}

// tree is all names below a directory with what they are, as lays takes them, told by the calls below alone; blanks between.
func (b *desk) tree(from string) string { return strings.Join(b.branch(from), " ") }

func (b *desk) branch(p string) []string {
	var l []string
	for _, name := range b.call(api.CallReaddir, p, "").Names {
		q := strings.TrimSuffix(p, "/") + "/" + name
		switch st := b.call(api.CallLstat, q, "").Stat; st.Kind {
		case api.KindDir:
			l = append(append(l, q+"/"), b.branch(q)...)
		case api.KindLink:
			l = append(l, q+">"+b.call(api.CallReadlink, q, "").Data)
		default:
			l = append(l, q+"="+string(b.bytes(q)))
		}
	}
	return l
}

// bytes is what a file has, told by the calls below alone.
func (b *desk) bytes(path string) []byte {
	var all []byte
	for {
		a := b.table.Do(api.Call{Kind: api.CallRead, Path: path, Offset: len(all), Size: api.MaxIO})
		if a.Err != api.OK || a.Data == "" {
			return all
		}
		all = append(all, a.Data...)
	}
}

// stands holds all names below the root with what they are.
func (b *desk) stands(want ...string) {
	b.t.Helper()
	if got := b.tree("/"); got != strings.Join(want, " ") {
		b.t.Errorf("the tree is %q, want %q", got, want)
	}
}

// holds holds the bytes of a file.
func (b *desk) holds(path string, want []byte) {
	b.t.Helper()
	if got := b.bytes(path); !bytes.Equal(got, want) {
		b.t.Errorf("%s has %s, want %s", path, short(got), short(want))
	}
}

// open opens a file that is to be opened.
func (b *desk) open(name string, flags int) *osfs.File {
	b.t.Helper()
	x, err := b.OpenFile(name, flags)
	if err != nil || x == nil {
		b.t.Fatalf("P22.2: OpenFile(%q, %d): %v", name, flags, err)
	}
	return x
}

// numbers holds how many numbers of the table are open.
func (b *desk) numbers(n int) {
	b.t.Helper()
	if l := b.table.Numbers(); len(l) != n {
		b.t.Errorf("P22.6: open are %v, want %d of them", l, n)
	}
}

// right holds that check finds nothing on the disk.
func (b *desk) right(what any) {
	b.t.Helper()
	if l := check.Image(b.d.Image()); len(l) > 0 {
		b.t.Errorf("P0.5: behind %v check finds %v", what, l)
	}
}

// place is where an open file is.
func place(t *testing.T, x *osfs.File) int {
	t.Helper()
	n, err := x.Seek(0, api.FromHere)
	if err != nil {
		t.Errorf("P22.5: Seek of no bytes: %v", err)
	}
	return int(n)
}

// opOf is the Op of an error of an operation.
func opOf(err error) string {
	var x *osfs.PathError
	if errors.As(err, &x) {
		return x.Op
	}
	return fmt.Sprint(err)
}
