package path_test

import (
	"slices"
	"strings"
	"sync"
	"testing"
	"unsafe"

	"bole/api"
	"bole/path"
)

// shares tells whether a text lies in the memory of another one.
func shares(part, s string) bool {
	if part == "" || s == "" {
		return false
	}
	p, from := uintptr(unsafe.Pointer(unsafe.StringData(part))), uintptr(unsafe.Pointer(unsafe.StringData(s)))
	return from <= p && p < from+uintptr(len(s))
}

// lists are all lists that the calls answer of one text.
func lists(s string) [][]string {
	p, _ := path.Parse(s)
	l, _, _ := path.Text(s)
	m, _, _ := path.Make(s)
	return [][]string{p, l, m}
}

// P13.8: what is answered lies in no memory of what was handed in.
func TestAnswersAreNew(t *testing.T) {
	for _, s := range []string{"/a", "/abc/def", "/abc/./def//..", "/a/b/", rep("/xyz", 32), "/" + rep("x", 27)} {
		s = strings.Clone(s)
		for _, l := range lists(s) {
			for _, c := range l {
				if shares(c, s) {
					t.Errorf("P13.8: %q lies in the text %q", c, s)
				}
			}
		}
		if _, last, _ := path.Make(s); shares(last, s) {
			t.Errorf("P13.8: the last one of Make, %q, lies in the text %q", last, s)
		}
		if c, _ := path.Clean(s); shares(c, s) {
			t.Errorf("P13.8: Clean(%q) lies in it", s)
		}
		l, _ := path.Parse(s)
		j, _ := path.Join(l)
		for _, c := range l {
			if shares(j, c) || shares(c, j) {
				t.Errorf("P13.8: Join(%q) lies in a part", l)
			}
		}
	}
}

// fill writes over a list and all its spare room.
func fill(l []string) {
	l = l[:cap(l)]
	for i := range l {
		l[i] = "written over"
	}
}

// P13.8: a list that is written over by the caller, its spare room too, changes no other answer and no later one.
func TestListsWrittenOver(t *testing.T) {
	for _, s := range []string{"/", "/a", "/a/b", "/a/b/c", "//a/./b///../c", rep("/x", 32), "/a/../b/../c"} {
		want := lists(s)
		clean, _ := path.Clean(s)
		_, last, _ := path.Make(s)
		for k := range want {
			first, second := lists(s), lists(s)
			fill(first[k])
			for i, l := range second {
				if !slices.Equal(l, want[i]) || i != k && !slices.Equal(first[i], want[i]) {
					t.Errorf("P13.8: a list of %s has changed with another one: %q", short(s), l)
				}
			}
			for i, l := range lists(s) {
				if !slices.Equal(l, want[i]) {
					t.Errorf("P13.8: a later list of %s has changed: %q", short(s), l)
				}
			}
		}
		wantClean(t, s, clean, api.OK)
		m, now, _ := path.Make(s)
		fill(m)
		if now != last {
			t.Errorf("P13.8: the last one of Make(%s) is %q", short(s), now)
		}
		wantMake(t, s, want[2], last, api.OK)
	}
}

// W3: the list that Join is handed stays, the room about it too; what it holds behind the call changes nothing that was answered.
func TestJoinLeavesItsList(t *testing.T) {
	for _, parts := range [][]string{nil, {}, {"a"}, {"b", "..", "a"}, {"a", ""}, {"a/b", "c"}, many("x", 32), many("x", 33), {rep("x", 28), "a"}} {
		all := slices.Concat([]string{"ahead"}, parts, []string{"behind", "", "."})
		before := slices.Clone(all)
		inside := all[1 : 1+len(parts)]
		s, e := path.Join(inside)
		if !slices.Equal(all, before) {
			t.Errorf("W3: Join(%s) has changed its list: %q", shorts(parts), all)
		}
		fill(inside)
		want, err := plainJoin(parts)
		if s != want || e != err {
			t.Errorf("P13.4: Join(%s) = %q, %d, want %q, %d", shorts(parts), s, e, want, err)
		}
		wantJoin(t, parts, want, err)
	}
}

// P13.8, W5: nothing is kept between the calls: whatever was asked ahead, the answers are the same.
func TestNothingIsKept(t *testing.T) {
	texts := samples()
	for i := range texts {
		wantPlain(t, texts[i])
		wantPlain(t, texts[len(texts)-1-i])
		wantPlain(t, texts[i])
	}
}

// P13.8: calls at the same time don't meet.
func TestCallsAtOnce(t *testing.T) {
	var all sync.WaitGroup
	for k := range 8 {
		all.Go(func() {
			for i, s := range samples() {
				if i%8 == k || i%5 == 0 {
					wantPlain(t, s)
				}
			}
		})
	}
	all.Wait()
}

// P13.8: every call ends, with texts and lists far beyond every limit.
func TestVeryLong(t *testing.T) {
	const n = 1 << 19
	for _, s := range []string{rep("/", n), rep("x", n), rep("/x", n), rep("/..", n), rep("/.", n), rep("\x00", n), rep("/", n) + "..", "/" + rep("x", n) + "/.", rep("/", n) + "\x00", rep(".", n)} {
		wantPlain(t, s)
	}
	wantJoin(t, many("x", n), "", api.ErrTooLong)
	wantJoin(t, append(many("x", n), "."), "", api.ErrInval)
	wantJoin(t, many("", n), "", api.ErrInval)
	wantJoin(t, []string{"a", rep("x", n), "b"}, "", api.ErrTooLong)
	wantJoin(t, []string{"a", rep("x", n) + "/", "b"}, "", api.ErrInval)
}
