package pack_test

import (
	"math/rand"
	"slices"
	"strings"
	"testing"

	"bole/api"
	"bole/fds"
	"bole/pack"
	"bole/ram"
)

// drawnName is one of a few names, so that they meet; some have bytes that lie about '/'.
func drawnName(r *rand.Rand) string {
	return []string{"a", "b", "ab", "a-", "a.b", "abc", "...", "\xff", "\x80a", " ", "A", "a\x01", "c", "ba", rep("n", 27), "0"}[r.Intn(16)]
}

// drawnText is a text that a symbolic link may have.
func drawnText(r *rand.Rand) string {
	return []string{"a", "..", "/", "/s/a", "../b", "./././", "none", "a/b/c", "/s", rep("../", 5), rep("./", 512), "\xff"}[r.Intn(12)]
}

// drawnFile is what is in a file, of at most so many bytes.
func drawnFile(r *rand.Rand, most int) (size int, data string, pieces []int) {
	size = r.Intn(most + 1)
	if r.Intn(3) == 0 {
		size -= size % 512
	}
	for p := 0; 512*p < size; p += 1 + r.Intn(3)*r.Intn(1+most/2000) {
		b := make([]byte, plainLen(size, p))
		b[r.Intn(len(b))] = byte(1 + r.Intn(255))
		if r.Intn(2) == 0 {
			r.Read(b[len(b)/2:])
			b[len(b)-1] |= 1
		}
		if r.Intn(4) > 0 {
			pieces, data = append(pieces, p), data+string(b)
		}
	}
	return size, data, pieces
}

// drawnList is a right list of at most so many items.
func drawnList(r *rand.Rand, most int) []pack.Item {
	switch r.Intn(12) {
	case 0:
		return []pack.Item{link("", drawnText(r))}
	case 1:
		size, data, pieces := drawnFile(r, 3000)
		return []pack.Item{file("", size, data, pieces...)}
	}
	dirs := []string{""}
	l := []pack.Item{dir("")}
	for range most - 1 {
		p := strings.TrimPrefix(dirs[r.Intn(len(dirs))]+"/"+drawnName(r), "/")
		if len(plainNames(p)) > 32 || slices.ContainsFunc(l, func(x pack.Item) bool { return x.Path == p }) {
			continue
		}
		switch r.Intn(6) {
		case 0, 1:
			l = append(l, dir(p))
			dirs = append(dirs, p)
		case 2:
			l = append(l, link(p, drawnText(r)))
		default:
			size, data, pieces := drawnFile(r, 3000)
			l = append(l, file(p, size, data, pieces...))
		}
	}
	slices.SortFunc(l, func(x, y pack.Item) int {
		if plainAhead(x.Path, y.Path) {
			return -1
		}
		return 1
	})
	for i, x := range l {
		if first := r.Intn(i + 1); x.Kind != api.KindDir && first < i && l[first].Kind == x.Kind && l[first].Same == -1 {
			l[i] = again(x.Path, x.Kind, first)
		}
	}
	return l
}

// spoil changes something in a list; mostly it is no right one then.
func spoil(r *rand.Rand, l []pack.Item) {
	x := &l[r.Intn(len(l))]
	y := l[r.Intn(len(l))]
	switch r.Intn(14) {
	case 0:
		x.Path = y.Path
	case 1:
		x.Path += []string{"/", "/a", "a", "\x00", "/..", "\xff", rep("/n", 30)}[r.Intn(7)]
	case 2:
		x.Path = x.Path[:r.Intn(len(x.Path)+1)]
	case 3:
		x.Kind = r.Intn(5)
	case 4:
		x.Same = r.Intn(len(l)+3) - 2
	case 5:
		x.Size += r.Intn(3) - 1
	case 6:
		x.Size = []int{-1, api.MaxFile, api.MaxFile + 1, 0, 512}[r.Intn(5)]
	case 7:
		x.Data += []string{"x", "\x00"}[r.Intn(2)]
	case 8:
		x.Data = x.Data[:r.Intn(len(x.Data)+1)]
	case 9:
		x.Data = zeros(len(x.Data))
	case 10:
		x.Pieces = append(slices.Clone(x.Pieces), r.Intn(8)-1)
	case 11:
		if x.Pieces = slices.Clone(x.Pieces); len(x.Pieces) > 0 {
			x.Pieces[r.Intn(len(x.Pieces))] += r.Intn(5) - 2
		}
	case 12:
		*x = y
	case 13:
		x.Size, x.Data, x.Pieces = y.Size, y.Data, y.Pieces
	}
}

// P24.2 to P24.5: drawn lists, right and wrong, held against the chapter's words said plainly.
func TestDrawnLists(t *testing.T) {
	r := rand.New(rand.NewSource(25))
	right, wrong := 0, map[string]int{}
	for range 12000 {
		l := drawnList(r, 1+r.Intn(12))
		isRight(t, "drawn", l)
		for range 1 + r.Intn(2) {
			spoil(r, l)
		}
		if why := plainWrong(l); why != "" {
			refused(t, "drawn and spoiled", l)
			wrong[why]++
		} else {
			taken(t, "drawn and spoiled", l)
			right++
		}
		if t.Failed() {
			return
		}
	}
	if right < 1000 || len(wrong) < 14 {
		t.Errorf("behind spoiling %d were right, and wrong by %v", right, wrong)
	}
}

// roomOf is what is free and what there is.
func roomOf(f api.Caller) api.Room { return f.Do(api.Call{Kind: api.CallRoom}).Room }

// drawnRow is a row of calls on "/s" and, less often, outside of it, at "/o". Some of them will be refused.
func drawnRow(r *rand.Rand, n int) []api.Call {
	row := []api.Call{mkdir("/s"), mkdir("/o")}
	dirs, paths := []string{"/s", "/s", "/o"}, []string{"/s/a"}
	for range n {
		p := paths[r.Intn(len(paths))]
		at := dirs[r.Intn(len(dirs))] + "/" + drawnName(r)
		kind := r.Intn(16)
		if kind < 4 {
			row, dirs = append(row, mkdir(at)), append(dirs, at)
			continue
		}
		paths = append(paths, at)
		switch kind {
		case 4, 5:
			row = append(row, create(at))
		case 6:
			row = append(row, create(at), write(at, r.Intn(3000), rep("x", 1+r.Intn(1500))))
		case 7:
			row = append(row, create(at), write(at, 0, rep("x", r.Intn(3000))+zeros(r.Intn(3000))+rep("y", r.Intn(700))))
		case 8:
			row = append(row, create(at), write(at, 512*(7+r.Intn(200)), "far"), truncate(at, 512*r.Intn(300)))
		case 9, 10:
			row = append(row, symlink(at, drawnText(r)))
		case 11, 12, 13:
			row = append(row, name(p, at))
		case 14:
			row = append(row, api.Call{Kind: api.CallRename, Path: p, Other: at})
		case 15:
			row = append(row, api.Call{Kind: api.CallUnlink, Path: p})
		}
	}
	return row
}

// P24.1, P24.5, P0.8: trees that rows of calls have left: Tree tells what stands there; Encode and Decode keep it; Put elsewhere, on the same file system and on others, makes the same tree again.
func TestDrawnTrees(t *testing.T) {
	r := rand.New(rand.NewSource(26))
	items, sames, kinds := 0, 0, map[int]int{}
	for round := range 40 {
		all := everyKind(t, 1024)
		for _, c := range drawnRow(r, 10+r.Intn(120)) {
			for _, f := range all {
				f.Do(c)
			}
		}
		list := tree(t, all["ram"], "/s")
		tells(t, all, "/s", list...)
		isRight(t, "of a tree", list)
		for _, x := range list {
			items++
			kinds[x.Kind]++
			if x.Same >= 0 {
				sames++
			}
		}
		got, e := pack.Decode(encoded(t, list))
		if e != api.OK || !same(got, list) {
			t.Errorf("P24.5: round %d: Decode(Encode) =%s, %d", round, told(got), e)
		}
		whole, _ := things(all["ram"], "/s")
		if want := plainTree(whole); !same(list, want) {
			t.Errorf("P24.1: round %d: Tree =%s, want%s", round, told(list), told(want))
		}
		targets := everyKind(t, 1024)
		for kind, f := range all {
			targets["the same "+kind] = f
		}
		for kind, f := range targets {
			at := []string{"/t", "/t/", "//t", "/./t//"}[r.Intn(4)]
			if e := pack.Put(f, at, got); e != api.OK {
				t.Errorf("P24.4: round %d: %s: Put: %d", round, kind, e)
			}
			tells(t, map[string]api.Caller{kind: f}, "/t", list...)
			if there, e := things(f, "/t"); e != api.OK || !plainSame(whole, there) {
				t.Errorf("P0.8: round %d: %s: what was put is another tree", round, kind)
			}
			holesStay(t, f, "/t", list)
		}
	}
	if items < 1000 || sames < 50 || kinds[api.KindLink] < 100 || kinds[api.KindFile] < 100 {
		t.Errorf("%d items, %d of them with a Same, by Kind %v", items, sames, kinds)
	}
}

// holesStay holds that a file has just the blocks of its pieces.
func holesStay(t *testing.T, f api.Caller, s string, l []pack.Item) {
	t.Helper()
	for _, x := range l {
		if x.Kind != api.KindFile || x.Same >= 0 {
			continue
		}
		want, e := ram.Takes(x.Pieces)
		if got := f.Do(api.Call{Kind: api.CallLstat, Path: plainAt(s, x.Path)}).Stat.Blocks; e != api.OK || got != want {
			t.Errorf("P0.8: %q has %d blocks, want %d", x.Path, got, want)
		}
	}
}

// P24.4, P24.5: drawn lists that no tree was asked for are put, and told as they are, where there is room.
func TestDrawnListsAreTrees(t *testing.T) {
	r := rand.New(rand.NewSource(27))
	put := 0
	for range 300 {
		l := drawnList(r, 1+r.Intn(40))
		f := memory(t, 2048)
		if e := pack.Put(f, "/t", l); e != api.OK {
			continue
		}
		put++
		tells(t, map[string]api.Caller{"ram": f}, "/t", l...)
		holesStay(t, f, "/t", l)
	}
	if put < 250 {
		t.Errorf("only %d were put", put)
	}
}

// P24.4: Put does what its calls do, one behind the other, up to the first that is refused, on small and full disks, over what is there, and where the path can't be.
func TestPutIsItsCalls(t *testing.T) {
	r := rand.New(rand.NewSource(28))
	errors := map[api.Errno]int{}
	for range 400 {
		all := map[string]api.Caller{"ram": memory(t, 128+r.Intn(30))}
		if r.Intn(8) == 0 {
			all["vfs"] = fresh(t, 128)
			all["fds"] = fds.New(fresh(t, 128).FS)
		}
		before := drawnRow(r, r.Intn(20))
		l := drawnList(r, 1+r.Intn(20))
		s := []string{"/t", "/t/", "/", "/s", "/s/a", "/s/a/b", "/x/y", "t", "", "/t\x00", "/t/.", "/..", "/" + rep("x", 28), rep("/", 1022) + "t", rep("/", 1020) + "t", rep("/a/..", 6) + "/t"}[r.Intn(16)]
		for kind, f := range all {
			blocks := 128
			if m, is := f.(*ram.FS); is {
				blocks = roomOf(m).Blocks
			}
			for _, c := range before {
				f.Do(c)
			}
			want, twin := putPlainly(t, kind, f, blocks, before, s, l)
			errors[want]++
			puts(t, f, s, l, want)
			is, _ := things(f, "/")
			was, _ := things(twin, "/")
			if !slices.Equal(is, was) || roomOf(f) != roomOf(twin) {
				t.Errorf("P24.4: %s: Put(%s,%s) has left something else than its calls", kind, short(s), told(l))
			}
		}
	}
	for _, e := range []api.Errno{api.OK, api.ErrSpace, api.ErrExist, api.ErrNone, api.ErrInval, api.ErrTooLong} {
		if errors[e] < 5 {
			t.Errorf("Put has answered %v", errors)
		}
	}
}

// putPlainly carries out Put's calls one by one on a twin: the first error, and the twin.
func putPlainly(t *testing.T, kind string, f api.Caller, blocks int, before []api.Call, s string, l []pack.Item) (api.Errno, api.Caller) {
	t.Helper()
	var twin api.Caller
	if m, is := f.(*ram.FS); is {
		twin = m.Copy()
	} else {
		b := fresh(t, blocks)
		for _, c := range before {
			b.Do(c)
		}
		twin = b.FS
	}
	for _, c := range plainCalls(s, l) {
		if a := twin.Do(c); a.Err != api.OK {
			return a.Err, twin
		}
	}
	return api.OK, twin
}

// P24.5: Put of Tree into the very tree that was told.
func TestPutInside(t *testing.T) {
	for _, at := range []string{"/t/new", "/t/d/e/new", "/t/void/new", "/t/!", "/t/\xff/", "/t/d/up/d/e/x"} {
		for kind, f := range laid(t, wideCalls()...) {
			l := tree(t, f, "/t")
			puts(t, f, at, l, api.OK)
			tells(t, map[string]api.Caller{kind: f}, at, l...)
			m := tree(t, f, "/t")
			if len(m) != 2*len(l) {
				t.Errorf("P24.1: %s: behind Put(%q) there are %d items, ahead %d", kind, at, len(m), len(l))
			}
			puts(t, f, "/u", m, api.OK)
			tells(t, map[string]api.Caller{kind: f}, "/u", m...)
		}
	}
}
