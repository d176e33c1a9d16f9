package pack_test

import (
	"bytes"
	"slices"
	"testing"

	"bole/api"
	"bole/pack"
	"bole/ram"
)

// exampleCalls make what example 2 speaks of.
func exampleCalls() []api.Call {
	row := append([]api.Call{mkdir("/d")}, writes("/d/a", 0, rep("x", 700))...)
	row = append(row, name("/d/a", "/d/b"))
	row = append(row, writes("/d/c", 0, zeros(600)+"y")...)
	return append(row, symlink("/d/l", "a"))
}

// exampleList is example 2's.
func exampleList() []pack.Item {
	return []pack.Item{
		{Kind: api.KindDir, Same: -1},
		{Path: "a", Kind: api.KindFile, Size: 700, Data: rep("x", 700), Pieces: []int{0, 1}, Same: -1},
		{Path: "b", Kind: api.KindFile, Same: 1},
		{Path: "c", Kind: api.KindFile, Size: 601, Data: zeros(88) + "y", Pieces: []int{1}, Same: -1},
		{Path: "l", Kind: api.KindLink, Size: 1, Data: "a", Same: -1},
	}
}

// P24.1, P24.2: example 1.
func TestExample1(t *testing.T) {
	want := []pack.Item{{Kind: api.KindFile, Same: -1}}
	tells(t, laid(t, create("/f")), "/f", want...)
	b := encoded(t, want)
	said := []byte{
		0x42, 0x4F, 0x4C, 0x45, 0x50, 0x41, 0x4B, 0x31, 1, 0, 0, 0,
		1, 0, 0, 0, 0, 0, 0, 0, 0, 0, 0, 0, 0, 0, 0, 0, 0, 0, 0,
	}
	if !bytes.Equal(open(b), said) || !bytes.Equal(b, sealed(said)) {
		t.Errorf("P24.2: example 1: Encode = % x, want % x", b, sealed(said))
	}
}

// P24.1: example 2.
func TestExample2(t *testing.T) {
	all := laid(t, exampleCalls()...)
	tells(t, all, "/d", exampleList()...)
	tells(t, all, "/d/l", pack.Item{Kind: api.KindLink, Size: 1, Data: "a", Same: -1})
	refuses(t, all, "/x", api.ErrNone)
}

// P24.2, P24.3: example 2's list, byte by byte.
func TestExample2Bytes(t *testing.T) {
	said := slices.Concat(
		[]byte("BOLEPAK1\x05\x00\x00\x00"),
		[]byte("\x02\x00\x00"+zeros(4)+zeros(4)+zeros(4)+zeros(4)),
		[]byte("\x01\x01\x00a"+zeros(4)+"\xbc\x02\x00\x00"+"\x02\x00\x00\x00"+zeros(4)+"\x01\x00\x00\x00"+"\xbc\x02\x00\x00"+rep("x", 700)),
		[]byte("\x01\x01\x00b"+"\x02\x00\x00\x00"+zeros(4)+zeros(4)+zeros(4)),
		[]byte("\x01\x01\x00c"+zeros(4)+"\x59\x02\x00\x00"+"\x01\x00\x00\x00"+"\x01\x00\x00\x00"+"\x59\x00\x00\x00"+zeros(88)+"y"),
		[]byte("\x03\x01\x00l"+zeros(4)+"\x01\x00\x00\x00"+zeros(4)+"\x01\x00\x00\x00a"),
	)
	if b := encoded(t, exampleList()); !bytes.Equal(b, sealed(said)) {
		t.Errorf("P24.2: example 2: Encode = % x, want % x", b, sealed(said))
	}
	if l, e := pack.Decode(sealed(said)); e != api.OK || !same(l, exampleList()) {
		t.Errorf("P24.3: example 2: Decode =%s, %d", told(l), e)
	}
}

// P24.2, P24.4: example 3.
func TestExample3(t *testing.T) {
	for what, l := range map[string][]pack.Item{
		"a twice":           {dir(""), empty("a"), empty("a")},
		"b ahead of a":      {dir(""), empty("b"), empty("a")},
		"no a":              {dir(""), empty("a/b")},
		"x alone":           {empty("x")},
		"Pieces behind":     {file("", 5, "", 1)},
		"four bytes":        {file("", 5, "xxxx", 0)},
		"five zeros":        {file("", 5, zeros(5), 0)},
		"its own Same":      {again("", api.KindFile, 0)},
		"Pieces behind too": {file("", 5, "xxxxx", 1)},
	} {
		isWrong(t, what, l)
	}
}

// P24.4: example 4.
func TestExample4(t *testing.T) {
	want := []api.Call{
		{Kind: api.CallMkdir, Path: "/e"},
		{Kind: api.CallCreate, Path: "/e/a"},
		{Kind: api.CallWrite, Path: "/e/a", Offset: 0, Data: rep("x", 512)},
		{Kind: api.CallWrite, Path: "/e/a", Offset: 512, Data: rep("x", 188)},
		{Kind: api.CallLink, Path: "/e/a", Other: "/e/b"},
		{Kind: api.CallCreate, Path: "/e/c"},
		{Kind: api.CallWrite, Path: "/e/c", Offset: 512, Data: zeros(88) + "y"},
		{Kind: api.CallSymlink, Path: "/e/l", Other: "a"},
	}
	all := laid(t, exampleCalls()...)
	for kind, f := range all {
		n := &noter{f: f}
		puts(t, n, "/e", exampleList(), api.OK)
		if !slices.EqualFunc(n.asked, want, func(a, b api.Call) bool { return a == b }) {
			t.Errorf("P24.4: %s: Put has asked %.300v, want %.300v", kind, n.asked, want)
		}
		was, _ := things(f, "/")
		room := f.Do(api.Call{Kind: api.CallRoom})
		puts(t, f, "/d", exampleList(), api.ErrExist)
		puts(t, f, "/", []pack.Item{dir("")}, api.ErrExist)
		if is, _ := things(f, "/"); !slices.Equal(is, was) || f.Do(api.Call{Kind: api.CallRoom}).Room != room.Room {
			t.Errorf("P24.4: %s: something has changed", kind)
		}
	}
	tells(t, all, "/e", exampleList()...)
}

// P24.1, P24.4: example 5.
func TestExample5(t *testing.T) {
	list := []pack.Item{{Kind: api.KindFile, Size: 1000, Same: -1}}
	all := laid(t, writes("/z", 0, zeros(1000))...)
	tells(t, all, "/z", list...)
	for kind, f := range all {
		n := &noter{f: f}
		puts(t, n, "/y", list, api.OK)
		if !slices.Equal(n.asked, []api.Call{create("/y"), truncate("/y", 1000)}) {
			t.Errorf("P24.4: %s: Put has asked %v", kind, n.asked)
		}
		if blocks, _ := ram.Takes(nil); f.Do(api.Call{Kind: api.CallLstat, Path: "/y"}).Stat.Blocks != blocks {
			t.Errorf("P0.8: %s: a hole isn't one any more", kind)
		}
	}
	tells(t, all, "/y", list...)
}
