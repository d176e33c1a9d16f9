package pack_test

import (
	"bytes"
	"fmt"
	"math"
	"slices"
	"strings"
	"testing"

	"bole/api"
	"bole/pack"
)

// fits tells whether all numbers of a list have the widths of their places, so that its bytes are that list's alone.
func fits(l []pack.Item) bool {
	word := func(n int) bool { return n >= 0 && n <= math.MaxUint32 }
	return !slices.ContainsFunc(l, func(x pack.Item) bool {
		return x.Kind < 0 || x.Kind > 255 || len(x.Path) > 65535 || !word(x.Same+1) || !word(x.Size) || slices.ContainsFunc(x.Pieces, func(p int) bool { return !word(p) })
	})
}

// refused holds that a list is refused by Encode, by Put ahead of all calls and of what is wrong with the path, and by Decode.
func refused(t *testing.T, what string, l []pack.Item) {
	t.Helper()
	if b, e := pack.Encode(l); e != api.ErrPack || len(b) != 0 {
		t.Errorf("P24.2: %s: Encode(%s) = %d bytes, %d, want none, %d", what, told(l), len(b), e, api.ErrPack)
	}
	for _, s := range []string{"/n", "/", "", "\x00"} {
		n := &noter{}
		if e := pack.Put(n, s, l); e != api.ErrPack || len(n.asked) != 0 {
			t.Errorf("P24.4: %s: Put(%q,%s) = %d, want %d; it has asked %v", what, s, told(l), e, api.ErrPack, n.asked)
		}
	}
	if fits(l) {
		noPack(t, what, plainBytes(l))
	}
}

// isWrong holds that a list is no right one.
func isWrong(t *testing.T, what string, l []pack.Item) {
	t.Helper()
	if plainWrong(l) == "" {
		t.Fatalf("%s: this is a right list:%s", what, told(l))
	}
	refused(t, what, l)
}

// taken holds that a list is taken by Encode and Put, and what these make of it, and that Decode answers it.
func taken(t *testing.T, what string, l []pack.Item) {
	t.Helper()
	b, e := pack.Encode(l)
	if e != api.OK || !bytes.Equal(b, plainBytes(l)) {
		t.Errorf("P24.2: %s: Encode(%s) = %d bytes, %d, want %d bytes, 0", what, told(l), len(b), e, len(plainBytes(l)))
	}
	for _, s := range []string{"/n", "/", "a//"} {
		n := &noter{}
		if e := pack.Put(n, s, l); e != api.OK || !slices.Equal(n.asked, plainCalls(s, l)) {
			t.Errorf("P24.4: %s: Put(%q,%s) = %d; it has asked %.300v, want %.300v", what, s, told(l), e, n.asked, plainCalls(s, l))
		}
	}
	if m, e := pack.Decode(plainBytes(l)); e != api.OK || !same(l, m) {
		t.Errorf("P24.3: %s: Decode =%s, %d, want%s, 0", what, told(m), e, told(l))
	}
}

// isRight holds that a list is a right one.
func isRight(t *testing.T, what string, l []pack.Item) {
	t.Helper()
	if wrong := plainWrong(l); wrong != "" {
		t.Fatalf("%s: this is no right list (%s):%s", what, wrong, told(l))
	}
	taken(t, what, l)
}

// in are directories one in another, the top first, and then an item.
func in(x pack.Item) []pack.Item {
	l := []pack.Item{dir("")}
	for i := range len(x.Path) {
		if x.Path[i] == '/' {
			l = append(l, dir(x.Path[:i]))
		}
	}
	return append(l, x)
}

// deepNames is a path of so many names.
func deepNames(n int) string { return strings.TrimPrefix(rep("/n", n), "/") }

// A right list has one item at least, and the first Path is "".
func TestFirstItem(t *testing.T) {
	isWrong(t, "no item", nil)
	isWrong(t, "no item", []pack.Item{})
	for _, x := range []pack.Item{dir(""), empty(""), link("", "x"), file("", 3, "abc", 0)} {
		isRight(t, "one item", []pack.Item{x})
		for _, p := range []string{"x", "/", ".", "..", "a/b", "\x00", " "} {
			x.Path = p
			isWrong(t, "the first Path", []pack.Item{x})
			isWrong(t, "the first Path", []pack.Item{x, empty("y")})
		}
		isWrong(t, `"" twice`, []pack.Item{dir(""), {Kind: x.Kind, Size: x.Size, Data: x.Data, Pieces: x.Pieces, Same: -1}})
	}
}

// Each other Path is 1 to 32 names with one '/' between each two.
func TestNames(t *testing.T) {
	long := rep("x", 27)
	for _, p := range []string{"a", "...", " ", "-", "\x01", "\xff", "a.b", ".a", "..a", "\\", "*", long, "a/b", long + "/" + long, "a/.../b", deepNames(31), deepNames(32), strings.TrimPrefix(rep("/"+long, 32), "/")} {
		isRight(t, "a Path", in(empty(p)))
		isRight(t, "a Path", in(dir(p)))
		isRight(t, "a Path", in(link(p, "x")))
	}
	for _, p := range []string{"", "/", "//", "/a", "a/", "a//b", "a/b/", ".", "..", "a/.", "a/..", "./a", "../a", "a/./b", "a/../b", "\x00", "a\x00", "\x00a", "a/\x00", long + "x", "a/" + long + "x", long + "x/a", deepNames(33), deepNames(34), rep("x", 65535), rep("/", 65535), rep("x/", 32767), rep("x/", 100000)} {
		for _, x := range []pack.Item{empty(p), dir(p), link(p, "x")} {
			isWrong(t, "a Path", []pack.Item{dir(""), x})
			if in := in(x); len(in) < 100 {
				isWrong(t, "a Path", in)
			}
		}
	}
	for c := range 256 {
		p := string([]byte{'a', byte(c), 'b'})
		if c == 0 {
			isWrong(t, "a byte of a name", in(empty(p)))
		} else {
			isRight(t, "a byte of a name", in(empty(p)))
		}
	}
}

// Each path stands behind the one ahead of it in the order of paths.
func TestOrderOfLists(t *testing.T) {
	rows := [][]string{
		{"a", "b"}, {"a", "aa"}, {"a/", "a/b", "a!"}, {"a/", "a/b", "a-c"}, {"a/", "a/b", "a.c"}, {"a/", "a/b", "a0"}, {"a/", "a/b/", "a/b/c", "a/b-"}, {"A", "a"}, {"Z", "a"}, {"\x01", "\xff"}, {"\x7f", "\x80"}, {"a", "\xc3\xa9"}, {"a/", "a/\xff", "a\x01"}, {"a/", "a/b", "b/", "b/a"}, {" ", "-"}, {"a/", "a/a/", "a/a/a", "a/aa"}, {"b/", "b/z", "c"}, {"a!/", "a!/b", "a\""},
	}
	for _, row := range rows {
		l := []pack.Item{dir("")}
		for _, p := range row {
			if d, ok := strings.CutSuffix(p, "/"); ok {
				l = append(l, dir(d))
			} else {
				l = append(l, empty(p))
			}
		}
		isRight(t, "in order", l)
		for i := 1; i < len(l); i++ {
			twice := slices.Insert(slices.Clone(l), i, l[i])
			isWrong(t, "twice", twice)
			isWrong(t, "twice, not one behind the other", append(slices.Clone(l), l[i]))
			for j := range i {
				if turned := slices.Clone(l); turned[i].Path != turned[j].Path {
					turned[i], turned[j] = turned[j], turned[i]
					isWrong(t, "out of order", turned)
				}
			}
		}
	}
	isWrong(t, "by the texts, not by the names", []pack.Item{dir(""), dir("a"), empty("a-c"), empty("a/b")})
	isWrong(t, "by the texts, not by the names", []pack.Item{dir(""), dir("a"), empty("a\x01"), empty("a/b")})
	isWrong(t, "a name behind its beginning", []pack.Item{dir(""), empty("ab"), empty("a")})
	isWrong(t, "a path ahead of its directory", []pack.Item{dir(""), empty("a/b"), dir("a")})
}

// The path without its last name is that of an item that is a directory.
func TestDirectories(t *testing.T) {
	isWrong(t, "below a file", []pack.Item{empty(""), empty("a")})
	isWrong(t, "below a symbolic link", []pack.Item{link("", "x"), empty("a")})
	isWrong(t, "below a symbolic link", []pack.Item{dir(""), link("a", "b"), empty("a/c"), dir("b")})
	isWrong(t, "below a file", []pack.Item{dir(""), empty("a"), empty("a/b")})
	isWrong(t, "below a second name", []pack.Item{dir(""), empty("a"), again("b", api.KindFile, 1), empty("b/c")})
	isWrong(t, "below nothing", []pack.Item{dir(""), empty("a/b")})
	isWrong(t, "below nothing", []pack.Item{dir(""), dir("a"), empty("a/b/c")})
	isWrong(t, "below nothing", []pack.Item{dir(""), dir("a"), dir("a/b"), empty("b/c")})
	isWrong(t, "below nothing", []pack.Item{dir(""), dir("ab"), empty("ab/c"), empty("b/c")})
	isWrong(t, "one name too many", []pack.Item{dir(""), dir("a"), dir("a/a"), empty("a/a/a/a")})
	isRight(t, "a directory far ahead", []pack.Item{dir(""), dir("a"), dir("a/b"), empty("a/b/c"), empty("a/d"), dir("e"), empty("e/a"), empty("f")})
	isRight(t, "directories without names", []pack.Item{dir(""), dir("a"), dir("b"), dir("c")})
	for k := 1; k < 32; k++ {
		isWrong(t, "without one directory", slices.Delete(in(empty(deepNames(32))), k, k+1))
		l := in(empty(deepNames(32)))
		l[k] = empty(l[k].Path)
		isWrong(t, "a file in a directory's place", l)
	}
}

// Kind is KindFile, KindDir or KindLink.
func TestKinds(t *testing.T) {
	for _, kind := range []int{0, 4, 5, -1, 255, 256, 257, 258, 259, math.MaxInt, math.MinInt, 1 << 32, 1<<32 + 1} {
		isWrong(t, "Kind", []pack.Item{{Kind: kind, Same: -1}})
		isWrong(t, "Kind", []pack.Item{dir(""), {Path: "a", Kind: kind, Same: -1}})
		isWrong(t, "Kind", []pack.Item{dir(""), {Path: "a", Kind: kind, Same: -1}, {Path: "b", Kind: kind, Same: 1}})
		isWrong(t, "Kind", []pack.Item{dir(""), {Path: "a", Kind: kind, Size: 1, Data: "x", Same: -1}})
	}
}

// Same is -1, or the number of an item ahead, of the same Kind, a file or a symbolic link, whose Same is -1.
func TestSames(t *testing.T) {
	list := func() []pack.Item {
		return []pack.Item{dir(""), file("a", 1, "x", 0), link("b", "y"), dir("c"), again("d", api.KindFile, 1), again("e", api.KindLink, 2), empty("f"), again("g", api.KindFile, 1), again("h", api.KindFile, 6), link("i", "y"), again("j", api.KindLink, 9)}
	}
	isRight(t, "Same", list())
	good := map[[2]int]bool{{4, 1}: true, {7, 1}: true, {8, 1}: true, {7, 6}: true, {8, 6}: true, {5, 2}: true, {10, 2}: true, {10, 9}: true}
	for i := range list() {
		for n := -5; n < 14; n++ {
			l := list()
			if n == -1 || n == l[i].Same {
				continue
			}
			l[i].Same = n
			if good[[2]int{i, n}] {
				isRight(t, fmt.Sprintf("Same %d of item %d", n, i), l)
			} else {
				isWrong(t, fmt.Sprintf("Same %d of item %d", n, i), l)
				// Also where nothing is in the item.
				l[i].Size, l[i].Data, l[i].Pieces = 0, "", nil
				if wrong := plainWrong(l); wrong != "" {
					isWrong(t, fmt.Sprintf("Same %d of item %d, bare", n, i), l)
				}
			}
		}
		for _, n := range []int{math.MinInt, math.MaxInt, math.MaxInt32, math.MaxUint32 - 1, math.MaxUint32, 1<<32 + 1, -1 << 32} {
			l := list()
			l[i].Same = n
			isWrong(t, "Same far off", l)
		}
	}
	isWrong(t, "its own Same", []pack.Item{again("", api.KindFile, 0)})
	isWrong(t, "its own Same", []pack.Item{again("", api.KindLink, 0)})
	isWrong(t, "its own Same", []pack.Item{dir(""), again("a", api.KindFile, 1)})
	isWrong(t, "a later one", []pack.Item{dir(""), again("a", api.KindFile, 2), empty("b")})
	isWrong(t, "each the other", []pack.Item{dir(""), again("a", api.KindFile, 2), again("b", api.KindFile, 1)})
	isWrong(t, "one with a Same", []pack.Item{dir(""), empty("a"), again("b", api.KindFile, 1), again("c", api.KindFile, 2)})
	isWrong(t, "another Kind", []pack.Item{dir(""), empty("a"), again("b", api.KindLink, 1)})
	isWrong(t, "another Kind", []pack.Item{dir(""), link("a", "x"), again("b", api.KindFile, 1)})
	isWrong(t, "a directory", []pack.Item{dir(""), again("a", api.KindDir, 0)})
	isWrong(t, "a directory", []pack.Item{dir(""), dir("a"), again("b", api.KindDir, 1)})
	isWrong(t, "a directory's", []pack.Item{dir(""), again("a", api.KindFile, 0)})
	isWrong(t, "a directory's", []pack.Item{dir(""), again("a", api.KindLink, 0)})
	isWrong(t, "below a directory with a Same", []pack.Item{dir(""), dir("a"), again("b", api.KindDir, 1), empty("b/c")})
}

// Of a directory, and of an item whose Same isn't -1: Size 0, Data "", no Pieces.
func TestBareItems(t *testing.T) {
	for _, l := range [][]pack.Item{{dir("")}, {dir(""), dir("a")}, {dir(""), file("a", 1, "x", 0), again("b", api.KindFile, 1)}, {dir(""), link("a", "x"), again("b", api.KindLink, 1)}} {
		isRight(t, "bare", l)
		for what, fill := range map[string]func(x *pack.Item){
			"Size 1":             func(x *pack.Item) { x.Size = 1 },
			"Size 512":           func(x *pack.Item) { x.Size = 512 },
			"Size -1":            func(x *pack.Item) { x.Size = -1 },
			"Data":               func(x *pack.Item) { x.Data = "x" },
			"Data of a zero":     func(x *pack.Item) { x.Data = "\x00" },
			"Pieces":             func(x *pack.Item) { x.Pieces = []int{0} },
			"a text":             func(x *pack.Item) { x.Size, x.Data = 1, "x" },
			"a file":             func(x *pack.Item) { x.Size, x.Data, x.Pieces = 1, "x", []int{0} },
			"a file of zeros":    func(x *pack.Item) { x.Size = 1000 },
			"a piece that isn't": func(x *pack.Item) { x.Pieces = []int{-1} },
		} {
			wrong := slices.Clone(l)
			fill(&wrong[len(l)-1])
			isWrong(t, what, wrong)
		}
	}
}

// Of any other file: Size from 0 to MaxFile.
func TestSizes(t *testing.T) {
	for _, size := range []int{0, 1, 511, 512, 513, 1 << 16, api.MaxFile - 512, api.MaxFile - 1, api.MaxFile} {
		isRight(t, "Size", []pack.Item{file("", size, "")})
		isRight(t, "Size", in(file("a", size, "")))
	}
	for _, size := range []int{-1, -512, api.MaxFile + 1, api.MaxFile + 512, math.MaxInt32, math.MaxUint32, 1 << 32, 1<<32 + 1, math.MaxInt, math.MaxInt - 511, math.MinInt} {
		isWrong(t, "Size", []pack.Item{file("", size, "")})
		isWrong(t, "Size", []pack.Item{file("", size, rep("x", 512), 0)})
		isWrong(t, "Size", []pack.Item{file("", size, "x", api.MaxBlocks)})
	}
}

// Pieces from 0 on, rising, 512 times each below Size.
func TestPieces(t *testing.T) {
	x := func(n int) string { return rep("x", n) }
	last := api.MaxBlocks - 1
	for _, l := range []pack.Item{
		file("", 1, "x", 0), file("", 511, x(511), 0), file("", 512, x(512), 0), file("", 513, x(512), 0), file("", 513, "x", 1), file("", 513, x(513), 0, 1), file("", 1024, x(1024), 0, 1), file("", 5000, x(1024), 0, 9-8), file("", 5000, x(1024), 7, 8), file("", 5000, x(392+512), 0, 9), file("", api.MaxFile, x(512), last), file("", api.MaxFile-1, x(511), last), file("", api.MaxFile-511, x(1), last), file("", api.MaxFile-512, "", []int{}...), file("", api.MaxFile, x(1024), 0, last),
	} {
		isRight(t, "Pieces", []pack.Item{l})
	}
	for what, l := range map[string]pack.Item{
		"twice":                         file("", 1024, x(1024), 0, 0),
		"falling":                       file("", 1024, x(1024), 1, 0),
		"falling behind rising":         file("", 2048, x(1536), 0, 2, 1),
		"twice at the end":              file("", 2048, x(1536), 0, 3, 3),
		"below 0":                       file("", 512, x(512), -1),
		"below 0, no Data":              file("", 512, "", -1),
		"below 0, more Data":            file("", 512, x(1024), -1),
		"below 0, then 0":               file("", 512, x(1024), -1, 0),
		"at the end":                    file("", 512, x(512), 1),
		"at the end, no Data":           file("", 512, "", 1),
		"at the end of some":            file("", 512, x(512), 0, 1),
		"at the end of none":            file("", 0, "", 0),
		"at the end, a byte":            file("", 0, "x", 0),
		"behind the end":                file("", 512, x(512), 2),
		"behind the end, none":          file("", 512, "", 2),
		"behind the end, a byte":        file("", 513, x(512), 2),
		"at MaxFile":                    file("", api.MaxFile, x(512), api.MaxBlocks),
		"at MaxFile, none":              file("", api.MaxFile, "", api.MaxBlocks),
		"far behind":                    file("", 512, x(512), 1<<55),
		"far behind, none":              file("", 512, "", 1<<55),
		"so far that 512 times is 0":    file("", 512, x(512), 1<<60),
		"so far that 512 times is -512": file("", 512, x(512), math.MaxInt),
		"below, 512 times is 0":         file("", 512, x(512), math.MinInt),
		"512 times is 0 of four bytes":  file("", 512, x(512), 1<<23),
		"four bytes":                    file("", 512, x(512), 1<<32),
		"at the end, a full piece":      file("", 513, x(513+512), 0, 1, 2),
	} {
		isWrong(t, "Pieces "+what, []pack.Item{l})
		l.Path = "a"
		isWrong(t, "Pieces "+what, in(l))
	}
}

// Data is as long as the pieces together, and none of them is all zeros.
func TestData(t *testing.T) {
	for _, c := range []struct {
		size   int
		pieces []int
	}{{0, nil}, {1, nil}, {1000, nil}, {1, []int{0}}, {5, []int{0}}, {512, []int{0}}, {513, []int{1}}, {513, []int{0}}, {1024, []int{0, 1}}, {1100, []int{0, 2}}, {1100, []int{0, 1}}, {3000, []int{1, 3, 5}}, {api.MaxFile, []int{5, api.MaxBlocks - 1}}} {
		long := 0
		for _, p := range c.pieces {
			long += plainLen(c.size, p)
		}
		data := rep("x", long)
		isRight(t, "Data", []pack.Item{file("", c.size, data, c.pieces...)})
		isWrong(t, "Data one byte too long", []pack.Item{file("", c.size, data+"x", c.pieces...)})
		isWrong(t, "Data a zero too long", []pack.Item{file("", c.size, data+"\x00", c.pieces...)})
		isWrong(t, "Data a piece too long", []pack.Item{file("", c.size, data+rep("x", 512), c.pieces...)})
		if long > 0 {
			isWrong(t, "Data one byte too short", []pack.Item{file("", c.size, data[1:], c.pieces...)})
			isWrong(t, "no Data", []pack.Item{file("", c.size, "", c.pieces...)})
		}
		at := 0
		for _, p := range c.pieces {
			n := plainLen(c.size, p)
			put := func(s string) []pack.Item {
				return []pack.Item{file("", c.size, data[:at]+s+data[at+n:], c.pieces...)}
			}
			isWrong(t, "a piece of zeros", put(zeros(n)))
			for _, k := range []int{0, n / 2, n - 1} {
				isRight(t, "a piece of zeros and a byte", put(zeros(k)+"\x01"+zeros(n-k-1)))
				isRight(t, "a piece of zeros and a byte", put(zeros(k)+"\xff"+zeros(n-k-1)))
			}
			at += n
		}
	}
}

// Of any other symbolic link: path.Text takes Data, Size is its length; no Pieces.
func TestTexts(t *testing.T) {
	long := rep("x", 27)
	dots := rep("./", 511) + "aa"
	for _, text := range []string{"x", "/", ".", "..", "../x", "/a/b", "//a//", " ", "\xff", long, "/" + long + "/", rep("/", 1024), rep("./", 512), dots, strings.TrimPrefix(rep("/x", 32), "/"), rep("/x", 32), rep("/"+long, 32), rep("../", 32)} {
		isRight(t, "a text", []pack.Item{link("", text)})
		isRight(t, "a text", in(link("a/b", text)))
		for _, size := range []int{-1, 0, len(text) - 1, len(text) + 1, len(text) + 256, 1<<32 + len(text)} {
			x := link("", text)
			x.Size = size
			isWrong(t, "a text's Size", []pack.Item{x})
		}
		for _, pieces := range [][]int{{0}, {1}, {-1}} {
			x := link("", text)
			x.Pieces = pieces
			isWrong(t, "a text's Pieces", []pack.Item{x})
		}
	}
	for _, text := range []string{"", "\x00", "x\x00", "\x00x", long + "x", "a/" + long + "x", rep("/", 1025), rep("./", 513), strings.TrimPrefix(rep("/x", 33), "/"), rep("/x", 33), rep("../", 33), rep("x", 1024), rep("x", 100000)} {
		isWrong(t, "no text", []pack.Item{link("", text)})
		isWrong(t, "no text", in(link("a/b", text)))
	}
}

// What is wrong is told wherever it stands in the list, and whatever stands about it.
func TestWrongAnywhere(t *testing.T) {
	list := []pack.Item{dir(""), dir("a"), file("a/b", 700, rep("x", 700), 0, 1), link("a/c", "x"), again("a/d", api.KindFile, 2), dir("b"), empty("b/a"), again("b/b", api.KindLink, 3), link("c", "/")}
	isRight(t, "the list", list)
	for i := range list {
		for what, spoil := range map[string]func(x *pack.Item){
			"Path":   func(x *pack.Item) { x.Path += "/" },
			"zero":   func(x *pack.Item) { x.Path += "\x00" },
			"Kind":   func(x *pack.Item) { x.Kind = 0 },
			"Kind 4": func(x *pack.Item) { x.Kind = 4 },
			"Size":   func(x *pack.Item) { x.Size = -1 },
			"great":  func(x *pack.Item) { x.Size = api.MaxFile + 1 },
			"Data":   func(x *pack.Item) { x.Data += "y" },
			"Pieces": func(x *pack.Item) { x.Pieces = append(slices.Clone(x.Pieces), 2) },
			"Same":   func(x *pack.Item) { x.Same = -2 },
			"later":  func(x *pack.Item) { x.Same = len(list) },
		} {
			l := slices.Clone(list)
			spoil(&l[i])
			isWrong(t, fmt.Sprintf("%s of item %d", what, i), l)
		}
	}
}
