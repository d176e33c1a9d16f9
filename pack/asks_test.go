package pack_test

import (
	"bytes"
	"slices"
	"strings"
	"testing"

	"bole/api"
	"bole/fds"
	"bole/pack"
)

// wideCalls make a tree that has things of all kinds, with several names and files of more than one read.
func wideCalls() []api.Call {
	row := []api.Call{mkdir("/t"), mkdir("/t/d"), mkdir("/t/d/e"), mkdir("/t/void")}
	row = append(row, writes("/t/d/big", 0, rep("x", 20000)+zeros(20000)+rep("y", 20000))...)
	row = append(row, writes("/t/d/e/small", 0, "text")...)
	return append(row, create("/t/none"), symlink("/t/l", "d/big"), symlink("/t/d/up", ".."), name("/t/d/big", "/t/a"), name("/t/l", "/t/d/l"), name("/t/none", "/t/d/e/none"), name("/t/d/e/small", "/out"), create("/t/d-"), truncate("/t/d-", 16385))
}

// asksOf are the questions about each of some items, in their order, but that a file's reading is one question here.
func asksOf(s string, l []pack.Item) []api.Call {
	var row []api.Call
	for _, x := range l {
		p := plainAt(s, x.Path)
		row = append(row, api.Call{Kind: api.CallLstat, Path: p})
		if kind := map[int]int{api.KindFile: api.CallRead, api.KindLink: api.CallReadlink, api.KindDir: api.CallReaddir}[x.Kind]; x.Same == -1 {
			row = append(row, api.Call{Kind: kind, Path: p})
		}
	}
	return row
}

// joined is a row of questions in which those that read one file, one behind the other, are one, with neither place nor length. They must lie together without a gap, from 0 on, and reach so far as the file does.
func joined(t *testing.T, row []api.Call, sizes map[string]int) []api.Call {
	t.Helper()
	var l []api.Call
	end := 0
	for k, c := range row {
		if c.Kind == api.CallRead {
			if first := k == 0 || row[k-1].Kind != api.CallRead || row[k-1].Path != c.Path; first {
				end = 0
			} else {
				l = l[:len(l)-1]
			}
			if c.Offset > end || c.Offset < 0 || c.Size < 0 || c.Size > api.MaxIO {
				t.Errorf("P24.1: %s is read from %d on, %d bytes, behind %d", c.Path, c.Offset, c.Size, end)
			}
			end = max(end, c.Offset+c.Size)
			if last := k+1 == len(row) || row[k+1].Kind != api.CallRead; last && end < sizes[c.Path] {
				t.Errorf("P24.1: %s is read up to %d", c.Path, end)
			}
			c.Offset, c.Size = 0, 0
		}
		l = append(l, c)
	}
	return l
}

// P24.1: Lstat of each item first, then what its Kind has, each item with all below it ahead of the next; nothing of an item that is an earlier one's inode.
func TestWhatIsAsked(t *testing.T) {
	for kind, f := range laid(t, append(wideCalls(), exampleCalls()...)...) {
		for _, s := range []string{"/t", "/t/", "/", "/d", "/t/d", "/t/d/big", "/t/a", "/t/l", "/t/none", "/t/void", "/t/d-", "//t//d/.", "/out"} {
			n := &noter{f: f}
			l := tree(t, n, s)
			sizes := map[string]int{}
			for _, x := range l {
				sizes[plainAt(s, x.Path)] = x.Size
			}
			if got, want := joined(t, n.asked, sizes), asksOf(s, l); !slices.Equal(got, want) {
				t.Errorf("P24.1: %s: Tree(%q) has asked %v, want %v", kind, s, got, want)
			}
			found, e := things(f, s)
			if want := plainTree(found); e != api.OK || !same(l, want) {
				t.Errorf("P24.1: %s: Tree(%q) =%s, want%s", kind, s, told(l), told(want))
			}
		}
	}
}

// P24.1: a top that isn't there is asked for by Lstat, and nothing else is asked.
func TestWhatIsAskedOfNothing(t *testing.T) {
	for kind, f := range laid(t, exampleCalls()...) {
		for _, s := range []string{"/x", "", "x", "/d/a/x", "/\x00", rep("/x", 33)} {
			n := &noter{f: f}
			pack.Tree(n, s)
			if want := []api.Call{{Kind: api.CallLstat, Path: s}}; !slices.Equal(n.asked, want) {
				t.Errorf("P24.1: %s: Tree(%s) has asked %v", kind, short(s), n.asked)
			}
		}
	}
}

// P24.1: whichever error a call answers, that is the answer, without items, and nothing is asked behind it.
func TestTreeHandsErrorsOn(t *testing.T) {
	for kind, f := range laid(t, wideCalls()...) {
		for _, s := range []string{"/", "/t", "/t/d/", "/t/l", "/t/a", "/t/void"} {
			whole := &noter{f: f}
			tree(t, whole, s)
			for at := range whole.asked {
				for _, want := range someErrors() {
					n := &noter{f: f, refuse: refusing(at, want)}
					if l, e := pack.Tree(n, s); e != want || len(l) != 0 {
						t.Errorf("P24.1: %s: call %d of Tree(%q) is refused:%s, %d, want none, %d", kind, at, s, told(l), e, want)
					}
					if !slices.Equal(n.asked, whole.asked[:at+1]) {
						t.Errorf("P24.1: %s: behind the error of call %d Tree(%q) has asked %v", kind, at, s, n.asked)
					}
				}
			}
		}
	}
}

// P24.1: the first of several errors is the answer.
func TestFirstError(t *testing.T) {
	f := laid(t, wideCalls()...)["ram"]
	whole := &noter{f: f}
	tree(t, whole, "/t")
	for at := range whole.asked {
		n := &noter{f: f, refuse: func(ahead int) api.Errno {
			if ahead < at {
				return api.OK
			}
			return api.Errno(500 + ahead)
		}}
		if l, e := pack.Tree(n, "/t"); e != api.Errno(500+at) || len(l) != 0 {
			t.Errorf("P24.1: from call %d on all are refused:%s, %d", at, told(l), e)
		}
	}
}

// P24.1: nothing changes: not a step, not a byte, not what the calls tell.
func TestTreeChangesNothing(t *testing.T) {
	b := fresh(t, 1024)
	f := memory(t, 1024)
	for _, c := range []api.Caller{b, f} {
		lays(t, c, wideCalls()...)
	}
	twin, image, steps := f.Copy(), b.d.Image(), b.steps()
	for _, s := range []string{"/", "/t", "/t/d", "/t/l", "/x", "", "/t/none"} {
		pack.Tree(b, s)
		pack.Tree(f, s)
		pack.Tree(fds.New(b.FS), s)
	}
	if b.steps() != steps || !bytes.Equal(b.d.Image(), image) {
		t.Errorf("P24.1: the disk has changed by %d steps", b.steps()-steps)
	}
	was, _ := things(twin, "/")
	if is, _ := things(f, "/"); !slices.Equal(is, was) {
		t.Error("P24.1: the file system in memory has changed")
	}
}

// P24.1: what an open file has no name for is no item; what is read through a table is what was written through it.
func TestOpenFiles(t *testing.T) {
	table := fds.New(fresh(t, 1024).FS)
	lays(t, table, mkdir("/d"))
	for _, s := range []string{"/d/stays", "/d/goes"} {
		fd, e := table.Open(s, api.WriteFlag|api.CreateFlag)
		if e != api.OK {
			t.Fatal(e)
		}
		if _, e := table.Write(fd, "text"); e != api.OK {
			t.Fatal(e)
		}
	}
	lays(t, table, api.Call{Kind: api.CallUnlink, Path: "/d/goes"})
	tells(t, map[string]api.Caller{"fds": table}, "/d", dir(""), file("stays", 4, "text", 0))
	l := tree(t, table, "/d")
	puts(t, table, "/e", l, api.OK)
	if !slices.Equal(table.Numbers(), []int{0, 1}) {
		t.Errorf("P24.4: the open numbers are %v", table.Numbers())
	}
	tells(t, map[string]api.Caller{"fds": table}, "/e", l...)
}

// loud is a caller that panics at its first call.
type loud struct{ with any }

func (l loud) Do(api.Call) api.Answer { panic(l.with) }

// P24.1: Tree leaves itself by a panic of its own; no other one is taken for that.
func TestForeignPanics(t *testing.T) {
	for _, with := range []any{"a text", api.ErrDown, strings.NewReader("")} {
		func() {
			defer func() {
				if caught := recover(); caught != with {
					t.Errorf("W1: the panic %v came as %v", with, caught)
				}
			}()
			l, e := pack.Tree(loud{with}, "/")
			t.Errorf("W1: the panic %v was taken for an answer: %v, %d", with, l, e)
		}()
	}
}
