package pack_test

import (
	"bytes"
	"fmt"
	"slices"
	"strings"
	"sync"
	"testing"
	"unsafe"

	"bole/api"
	"bole/pack"
)

// shares tells whether two texts have memory in common. (Of texts of one byte the language keeps one each.)
func shares(a, b string) bool {
	if len(a) < 2 || len(b) < 2 {
		return false
	}
	x, y := uintptr(unsafe.Pointer(unsafe.StringData(a))), uintptr(unsafe.Pointer(unsafe.StringData(b)))
	return x < y+uintptr(len(b)) && y < x+uintptr(len(a))
}

// loose is a text that lies in these bytes.
func loose(b []byte) string { return unsafe.String(unsafe.SliceData(b), len(b)) }

// deep is a list of its own, to be held against one that may be changed.
func deep(l []pack.Item) []pack.Item {
	m := slices.Clone(l)
	for i := range m {
		m[i].Path, m[i].Data, m[i].Pieces = strings.Clone(m[i].Path), strings.Clone(m[i].Data), slices.Clone(m[i].Pieces)
	}
	return m
}

// spoilAll writes over all of a list, the room behind it and behind its Pieces too.
func spoilAll(l []pack.Item) {
	for _, x := range l[:cap(l)] {
		pieces := x.Pieces[:cap(x.Pieces)]
		for i := range pieces {
			pieces[i] = -7
		}
	}
	l = l[:cap(l)]
	for i := range l {
		l[i] = pack.Item{Path: "written over", Kind: 9, Size: 9, Data: "written over", Same: 9}
	}
}

// apart holds that the Pieces of a list's items have no memory in common, spare room too: each is written over alone.
func apart(t *testing.T, what string, l []pack.Item) {
	t.Helper()
	for i := range l {
		was := deep(l)
		pieces := l[i].Pieces[:cap(l[i].Pieces)]
		kept := slices.Clone(pieces)
		for k := range pieces {
			pieces[k] = -9
		}
		for j := range l {
			if j != i && !slices.Equal(l[j].Pieces, was[j].Pieces) {
				t.Errorf("W3: %s: the Pieces of items %d and %d share memory", what, i, j)
			}
		}
		copy(pieces, kept)
	}
}

// manyPieces is a list of items that have some.
func manyPieces() []pack.Item {
	return []pack.Item{dir(""), file("aa", 3000, rep("x", 1536), 0, 2, 4), file("bb", 1025, rep("y", 513), 1, 2), dir("cc"), file("cc/dd", 512, rep("z", 512), 0), link("ee", "to there"), again("ff", api.KindFile, 1)}
}

// W3: a list that Tree answers is new: writing over it changes no other one, and nothing of the file system.
func TestTreesAreNew(t *testing.T) {
	for kind, f := range everyKind(t, 1024) {
		puts(t, f, "/t", manyPieces(), api.OK)
		first, second := tree(t, f, "/t"), tree(t, f, "/t")
		apart(t, kind+": Tree", first)
		spoilAll(first)
		if third := tree(t, f, "/t"); !same(second, manyPieces()) || !same(third, manyPieces()) {
			t.Errorf("W3: %s: a list was written over: another one is%s, the next one%s", kind, told(second), told(third))
		}
	}
}

// keeper hands on what it is asked, and holds what was answered.
type keeper struct {
	f       api.Caller
	asked   []api.Call
	answers []api.Answer
}

func (k *keeper) Do(c api.Call) api.Answer {
	a := k.f.Do(c)
	k.asked = append(k.asked, c)
	k.answers = append(k.answers, a)
	return a
}

// W3: what Tree tells has no memory of the path's, nor of what the file system answers; its names stay as they are.
func TestTreesShareNothing(t *testing.T) {
	for kind, f := range everyKind(t, 1024) {
		puts(t, f, "/tree", manyPieces(), api.OK)
		for _, s := range []string{"/tree", "/tree/", "/", "/tree/ee", "/tree/aa", "/tree/cc"} {
			s = strings.Clone(s)
			k := &keeper{f: f}
			l := tree(t, k, s)
			var others []string
			for _, a := range k.answers {
				others = append(append(others, a.Data), a.Names...)
				if !slices.IsSorted(a.Names) {
					t.Errorf("W3: %s: Tree(%q) has changed the names %q", kind, s, a.Names)
				}
			}
			others = append(others, s)
			for i, x := range l {
				for _, y := range others {
					if shares(x.Path, y) || shares(x.Data, y) {
						t.Errorf("W3: %s: item %d of Tree(%q) lies in %s", kind, i, s, short(y))
					}
				}
				for _, y := range l[:i] {
					if shares(x.Path, y.Path) || shares(x.Data, y.Data) {
						t.Errorf("W3: %s: item %d of Tree(%q) lies in another one", kind, i, s)
					}
				}
			}
		}
	}
}

// W3: what Encode answers is new, and its list stays, the room behind it too.
func TestEncodeLeavesItsList(t *testing.T) {
	list := manyPieces()
	roomy := append(make([]pack.Item, 0, 20), deep(list)...)
	for i := range roomy {
		roomy[i].Pieces = append(make([]int, 0, 9), roomy[i].Pieces...)
	}
	want := encoded(t, list)
	first := encoded(t, roomy)
	second := encoded(t, roomy)
	for i := range first[:cap(first)] {
		first[:cap(first)][i] = 0xAA
	}
	if third := encoded(t, roomy); !bytes.Equal(second, want) || !bytes.Equal(third, want) {
		t.Error("W3: bytes of Encode that were written over are another answer's")
	}
	for _, s := range []string{"/n", "/"} {
		pack.Put(&noter{}, s, roomy)
	}
	if !same(roomy, list) {
		t.Errorf("W3: the list is now%s", told(roomy))
	}
	for _, x := range roomy[len(roomy):cap(roomy)] {
		if !same([]pack.Item{x}, []pack.Item{{}}) {
			t.Errorf("W3: behind the list stands now%s", told([]pack.Item{x}))
		}
	}
	for i, x := range roomy {
		if behind := x.Pieces[len(x.Pieces):cap(x.Pieces)]; slices.ContainsFunc(behind, func(p int) bool { return p != 0 }) {
			t.Errorf("W3: behind the Pieces of item %d stands now %v", i, behind)
		}
	}
}

// W3: what Encode and Put were handed isn't kept: the texts' memory may become something else.
func TestListsAreNotKept(t *testing.T) {
	var memories [][]byte
	text := func(s string) string {
		b := []byte(s)
		memories = append(memories, b)
		return loose(b)
	}
	lying := manyPieces()
	for i := range lying {
		lying[i].Path, lying[i].Data = text(lying[i].Path), text(lying[i].Data)
	}
	b := encoded(t, lying)
	f := memory(t, 1024)
	puts(t, f, text("/t"), lying, api.OK)
	if !same(lying, manyPieces()) {
		t.Errorf("W3: the list is now%s", told(lying))
	}
	for _, m := range memories {
		for i := range m {
			m[i] = '!'
		}
	}
	spoilAll(lying)
	if !bytes.Equal(b, encoded(t, manyPieces())) {
		t.Error("W3: Encode's bytes have changed with the list")
	}
	tells(t, map[string]api.Caller{"ram": f}, "/t", manyPieces()...)
}

// W3: Decode leaves its bytes as they are, the room behind them too, and keeps none of them; its lists are new.
func TestDecodeIsNew(t *testing.T) {
	want := encoded(t, manyPieces())
	b := append(make([]byte, 0, 2*len(want)), want...)
	room := b[len(b):cap(b)]
	for i := range room {
		room[i] = 0x55
	}
	first, e := pack.Decode(b)
	second, f := pack.Decode(b)
	if e != api.OK || f != api.OK || !bytes.Equal(b, want) || !bytes.Equal(room, bytes.Repeat([]byte{0x55}, len(room))) {
		t.Errorf("W3: Decode has changed its bytes: %d, %d", e, f)
	}
	apart(t, "Decode", first)
	for i, x := range first {
		for _, y := range []string{x.Path, x.Data} {
			if shares(y, loose(b)) {
				t.Errorf("W3: item %d of Decode lies in the bytes", i)
			}
			for j, z := range second {
				if shares(y, z.Path) || shares(y, z.Data) {
					t.Errorf("W3: item %d of one Decode lies in item %d of another", i, j)
				}
			}
		}
	}
	for i := range b {
		b[i] = 0xAA
	}
	if !same(first, manyPieces()) {
		t.Errorf("W3: with the bytes the list has become%s", told(first))
	}
	spoilAll(first)
	if third, e := pack.Decode(want); !same(second, manyPieces()) || e != api.OK || !same(third, manyPieces()) {
		t.Errorf("W3: a list was written over: another one is%s, the next one%s", told(second), told(third))
	}
	for _, bad := range [][]byte{want[:len(want)-1], append(slices.Clone(want), 0), sealed(want)} {
		kept := slices.Clone(bad)
		noPack(t, "spoiled", bad)
		if !bytes.Equal(bad, kept) {
			t.Error("W3: Decode has changed bytes that are no pack")
		}
	}
}

// W5: nothing is kept between the calls, and calls at the same time don't meet.
func TestCallsAtOnce(t *testing.T) {
	lists := [][]pack.Item{manyPieces(), exampleList(), smallList(), {dir("")}, {empty("")}, {link("", "x")}, in(empty(deepNames(32)))}
	var all sync.WaitGroup
	for k := range 8 {
		all.Go(func() {
			f := memory(t, 1024)
			for i := range 60 {
				l := lists[(i+k)%len(lists)]
				b, e := pack.Encode(l)
				m, err := pack.Decode(b)
				if e != api.OK || err != api.OK || !bytes.Equal(b, plainBytes(l)) || !same(l, m) {
					t.Errorf("W5: %d at once: %d, %d", k, e, err)
				}
				if l, e := pack.Decode(b[1:]); e != api.ErrPack || len(l) != 0 {
					t.Errorf("W5: %d at once: %d", k, e)
				}
				s := fmt.Sprintf("/%d", i)
				if e := pack.Put(f, s, l); e != api.OK {
					continue
				}
				if m, e := pack.Tree(f, s); e != api.OK || !same(l, m) {
					t.Errorf("W5: %d at once: Tree =%s, %d", k, told(m), e)
				}
			}
		})
	}
	all.Wait()
}
