package pack_test

import (
	"slices"
	"testing"

	"bole/api"
	"bole/pack"
)

// asksFor holds which calls Put makes, in their order, with their arguments.
func asksFor(t *testing.T, s string, l []pack.Item, want ...api.Call) {
	t.Helper()
	n := &noter{}
	if e := pack.Put(n, s, l); e != api.OK || !slices.Equal(n.asked, want) {
		t.Errorf("P24.4: Put(%q,%s) = %d; it has asked %v, want %v", s, told(l), e, n.asked, want)
	}
}

// P24.4: the calls of each kind of item, as the top.
func TestCallsOfTops(t *testing.T) {
	for _, s := range []string{"/n", "/n/", "/", "", "n", "//n//.", "/a/../b", "\x00"} {
		asksFor(t, s, []pack.Item{dir("")}, api.Call{Kind: api.CallMkdir, Path: s})
		asksFor(t, s, []pack.Item{link("", "../x")}, api.Call{Kind: api.CallSymlink, Path: s, Other: "../x"})
		asksFor(t, s, []pack.Item{empty("")}, api.Call{Kind: api.CallCreate, Path: s})
		asksFor(t, s, []pack.Item{file("", 3, "abc", 0)}, api.Call{Kind: api.CallCreate, Path: s}, api.Call{Kind: api.CallWrite, Path: s, Offset: 0, Data: "abc"})
		asksFor(t, s, []pack.Item{file("", 1, "")}, api.Call{Kind: api.CallCreate, Path: s}, api.Call{Kind: api.CallTruncate, Path: s, Size: 1})
	}
}

// P24.4: of a file a write for each piece, and the size behind them, if it is above the last one's end.
func TestCallsOfFiles(t *testing.T) {
	x := func(n int) string { return rep("x", n) }
	made := create("/n")
	at := func(p int, data string) api.Call {
		return api.Call{Kind: api.CallWrite, Path: "/n", Offset: 512 * p, Data: data}
	}
	to := func(size int) api.Call { return truncate("/n", size) }
	last := api.MaxBlocks - 1
	for _, c := range []struct {
		item pack.Item
		want []api.Call
	}{
		{file("", 0, ""), nil},
		{file("", 1, ""), []api.Call{to(1)}},
		{file("", 512, ""), []api.Call{to(512)}},
		{file("", api.MaxFile, ""), []api.Call{to(api.MaxFile)}},
		{file("", 1, "x", 0), []api.Call{at(0, "x")}},
		{file("", 511, x(511), 0), []api.Call{at(0, x(511))}},
		{file("", 512, x(512), 0), []api.Call{at(0, x(512))}},
		{file("", 513, x(512), 0), []api.Call{at(0, x(512)), to(513)}},
		{file("", 513, x(513), 0, 1), []api.Call{at(0, x(512)), at(1, "x")}},
		{file("", 513, "y", 1), []api.Call{at(1, "y")}},
		{file("", 1024, x(512)+"y"+x(511), 0, 1), []api.Call{at(0, x(512)), at(1, "y"+x(511))}},
		{file("", 1024, x(512), 0), []api.Call{at(0, x(512)), to(1024)}},
		{file("", 1024, x(512), 1), []api.Call{at(1, x(512))}},
		{file("", 1536, x(512), 1), []api.Call{at(1, x(512)), to(1536)}},
		{file("", 1025, x(513), 1, 2), []api.Call{at(1, x(512)), at(2, "x")}},
		{file("", 3000, x(512)+"y"+x(439), 2, 5), []api.Call{at(2, x(512)), at(5, "y"+x(439))}},
		{file("", 3000, x(512)+"y"+x(511), 2, 4), []api.Call{at(2, x(512)), at(4, "y"+x(511)), to(3000)}},
		{file("", api.MaxFile, x(512), last), []api.Call{at(last, x(512))}},
		{file("", api.MaxFile-1, x(511), last), []api.Call{at(last, x(511))}},
		{file("", api.MaxFile, x(512), last-1), []api.Call{at(last-1, x(512)), to(api.MaxFile)}},
		{file("", 600, zeros(511)+"x", 0), []api.Call{at(0, zeros(511)+"x"), to(600)}},
	} {
		asksFor(t, "/n", []pack.Item{c.item}, append([]api.Call{made}, c.want...)...)
	}
}

// P24.4: an item's path, at s with a '/' at its end and without.
func TestCallsBelow(t *testing.T) {
	l := []pack.Item{dir(""), dir("a"), file("a/b", 600, "x"+zeros(511), 0), link("a/c", "b"), again("a/d", api.KindFile, 2), dir("a/e"), empty("a/e/f"), again("a/e/g", api.KindLink, 3), again("z", api.KindFile, 6)}
	for s, at := range map[string]string{"/n": "/n/", "/n/": "/n/", "/": "/", "//": "//", "/n//": "/n//", "/n/.": "/n/./", "": "/", "n": "n/", ".": "./"} {
		asksFor(t, s, l,
			mkdir(s), mkdir(at+"a"),
			create(at+"a/b"), write(at+"a/b", 0, "x"+zeros(511)), truncate(at+"a/b", 600),
			symlink(at+"a/c", "b"),
			name(at+"a/b", at+"a/d"),
			mkdir(at+"a/e"), create(at+"a/e/f"),
			name(at+"a/c", at+"a/e/g"),
			name(at+"a/e/f", at+"z"))
	}
}

// P24.4: a refusal at each single call: that error, nothing asked behind it, and what was done by then stays.
func TestPutHandsErrorsOn(t *testing.T) {
	l := tree(t, laid(t, wideCalls()...)["ram"], "/t")
	for _, s := range []string{"/n", "/n/"} {
		calls := plainCalls(s, l)
		for at := range calls {
			for _, want := range someErrors() {
				f := memory(t, 1024)
				n := &noter{f: f, refuse: refusing(at, want)}
				puts(t, n, s, l, want)
				if !slices.Equal(n.asked, calls[:at+1]) {
					t.Errorf("P24.4: call %d is refused: Put(%q) has asked %d calls", at, s, len(n.asked))
				}
				if want != api.ErrSpace {
					continue
				}
				twin := memory(t, 1024)
				lays(t, twin, calls[:at]...)
				was, _ := things(twin, "/")
				if is, _ := things(f, "/"); !slices.Equal(is, was) {
					t.Errorf("P24.4: call %d is refused: Put(%q) has left something else", at, s)
				}
			}
		}
	}
}

// P24.4: what calls refuse by themselves: each in its place, and what was done by then stays.
func TestRefusedPuts(t *testing.T) {
	list := exampleList()
	for s, want := range map[string]api.Errno{
		"/d": api.ErrExist, "/d/": api.ErrExist, "/d/a": api.ErrExist, "/d/l": api.ErrExist, "/": api.ErrExist, "//": api.ErrExist, "/d/..": api.ErrInval, "/n/.": api.ErrInval, "": api.ErrInval, "n": api.ErrInval, "/n\x00": api.ErrInval, "/x/n": api.ErrNone, "/d/a/n": api.ErrNotDir, "/" + rep("x", 28): api.ErrTooLong, rep("/", 1025): api.ErrTooLong,
	} {
		for kind, f := range laid(t, exampleCalls()...) {
			was, _ := things(f, "/")
			puts(t, f, s, list, want)
			if is, _ := things(f, "/"); !slices.Equal(is, was) {
				t.Errorf("P24.4: %s: Put(%q) has changed something", kind, s)
			}
		}
	}
	// What is below it lies too deep, or has too long a path.
	for s, there := range map[string]int{rep("/", api.MaxPath-1) + "n": 1, "/n" + rep("/", api.MaxPath-2): 1, rep("/", api.MaxPath-2) + "n": 1} {
		for kind, f := range everyKind(t, 1024) {
			puts(t, f, s, list, api.ErrTooLong)
			if l := tree(t, f, "/"); len(l) != 1+there {
				t.Errorf("P24.4: %s: Put(%s) has left%s", kind, short(s), told(l))
			}
		}
	}
	for kind, f := range everyKind(t, 1024) {
		puts(t, f, "/a", in(empty(deepNames(31))), api.OK)
		puts(t, f, "/b", in(empty(deepNames(32))), api.ErrTooLong)
		if l := tree(t, f, "/b"); !same(l, in(empty(deepNames(32)))[:32]) {
			t.Errorf("P24.4: %s: what is too deep has left%s", kind, told(l))
		}
		puts(t, f, "/a/", in(empty(deepNames(31))), api.ErrExist)
	}
}

// P24.4: more names than a file may have: ErrLinks of that call.
func TestTooManyNames(t *testing.T) {
	l := []pack.Item{dir(""), file("0000", 1, "x", 0)}
	for k := range api.MaxLinks {
		l = append(l, again(string([]byte{'a' + byte(k/100), 'a' + byte(k/10%10), 'a' + byte(k%10)}), api.KindFile, 1))
	}
	f := memory(t, 1024)
	puts(t, f, "/n", l[:api.MaxLinks+1], api.OK)
	tells(t, map[string]api.Caller{"ram": f}, "/n", l[:api.MaxLinks+1]...)
	puts(t, f, "/m", l, api.ErrLinks)
	tells(t, map[string]api.Caller{"ram": f}, "/m", l[:api.MaxLinks+1]...)
}

// P24.4: where there is no room, ErrSpace at that call; the pieces that had room stay.
func TestNoRoom(t *testing.T) {
	l := []pack.Item{dir(""), file("a", 40*512, rep("q", 40*512), all(40)...), empty("b")}
	for kind, f := range everyKind(t, 128) {
		// Of 27 blocks the root and the directory have one each, and the file a table.
		puts(t, f, "/n", l, api.ErrSpace)
		tells(t, map[string]api.Caller{kind: f}, "/n", dir(""), file("a", 24*512, rep("q", 24*512), all(24)...))
	}
	for kind, f := range everyKind(t, 128) {
		m := []pack.Item{dir("")}
		for k := range 15 {
			m = append(m, empty(string([]byte{'a' + byte(k)})))
		}
		puts(t, f, "/n", m, api.ErrSpace)
		tells(t, map[string]api.Caller{kind: f}, "/n", m[:14]...)
	}
}
