package pack_test

import (
	"fmt"
	"slices"
	"strings"
	"testing"

	"bole/api"
	"bole/pack"
)

// pieced is the item of a file with these bytes.
func pieced(path, data string) pack.Item {
	l := plainTree([]thing{{path: path, stat: api.Stat{Kind: api.KindFile, Size: len(data)}, data: data}})
	return l[0]
}

// P24.1: a file's pieces, by how many bytes it has, and where zeros are in it.
func TestFiles(t *testing.T) {
	x := func(n int) string { return rep("x", n) }
	for what, c := range map[string]struct {
		data string
		want pack.Item
	}{
		"without bytes":          {"", file("", 0, "")},
		"one byte":               {"x", file("", 1, "x", 0)},
		"one zero":               {zeros(1), file("", 1, "")},
		"511":                    {x(511), file("", 511, x(511), 0)},
		"512":                    {x(512), file("", 512, x(512), 0)},
		"513":                    {x(513), file("", 513, x(513), 0, 1)},
		"1023":                   {x(1023), file("", 1023, x(1023), 0, 1)},
		"1024":                   {x(1024), file("", 1024, x(1024), 0, 1)},
		"1025":                   {x(1025), file("", 1025, x(1025), 0, 1, 2)},
		"all zeros, 512":         {zeros(512), file("", 512, "")},
		"all zeros, 513":         {zeros(513), file("", 513, "")},
		"all zeros, 1000":        {zeros(1000), file("", 1000, "")},
		"all zeros, 40000":       {zeros(40000), file("", 40000, "")},
		"zeros at the front":     {zeros(512) + x(512), file("", 1024, x(512), 1)},
		"fewer at the front":     {zeros(511) + x(513), file("", 1024, zeros(511)+x(513), 0, 1)},
		"more at the front":      {zeros(513) + x(511), file("", 1024, zeros(1)+x(511), 1)},
		"zeros in the midst":     {x(512) + zeros(512) + x(512), file("", 1536, x(1024), 0, 2)},
		"too few in the midst":   {x(512) + zeros(511) + x(513), file("", 1536, x(512)+zeros(511)+x(513), 0, 1, 2)},
		"zeros that lie across":  {x(300) + zeros(512) + x(300), file("", 1112, x(300)+zeros(512)+x(300), 0, 1, 2)},
		"zeros at the end":       {x(512) + zeros(512), file("", 1024, x(512), 0)},
		"some at the end":        {x(512) + zeros(5), file("", 517, x(512), 0)},
		"many at the end":        {x(512) + zeros(2000), file("", 2512, x(512), 0)},
		"zeros behind a byte":    {x(512) + "x" + zeros(511), file("", 1024, x(513)+zeros(511), 0, 1)},
		"a byte behind zeros":    {zeros(511) + "x", file("", 512, zeros(511)+"x", 0)},
		"a last piece of a byte": {zeros(1024) + "x", file("", 1025, "x", 2)},
		"every second piece":     {rep(x(512)+zeros(512), 40), file("", 40960, x(512*40), evens(40)...)},
		"as long as a read":      {x(16384), file("", 16384, x(16384), all(32)...)},
		"one more":               {x(16385), file("", 16385, x(16385), all(33)...)},
		"one fewer":              {x(16383), file("", 16383, x(16383), all(32)...)},
		"two reads":              {x(32768), file("", 32768, x(32768), all(64)...)},
		"zeros, then a read's":   {zeros(16384) + "x", file("", 16385, "x", 32)},
		"bytes of all kinds":     {every(), file("", 768, every(), 0, 1)},
	} {
		tells(t, laid(t, writes("/f", 0, c.data)...), "/f", c.want)
		if got := pieced("", c.data); !same([]pack.Item{got}, []pack.Item{c.want}) {
			t.Errorf("P24.1: %s: said plainly:%s", what, told([]pack.Item{got}))
		}
	}
}

func all(n int) []int {
	var l []int
	for p := range n {
		l = append(l, p)
	}
	return l
}

func evens(n int) []int {
	l := all(n)
	for p := range l {
		l[p] *= 2
	}
	return l
}

// every is each byte, thrice.
func every() string {
	b := make([]byte, 768)
	for i := range b {
		b[i] = byte(i)
	}
	return string(b)
}

// P24.1: every length about a piece's end, with a byte at each of some places or none.
func TestEveryLength(t *testing.T) {
	all := everyKind(t, 1024)
	for _, size := range []int{1, 2, 511, 512, 513, 1023, 1024, 1025, 1536, 16383, 16384, 16385, 16896, 20000} {
		for _, at := range []int{0, 1, 510, 511, 512, 513, 1023, 1024, 16383, 16384, size - 1} {
			if at >= size {
				continue
			}
			p := fmt.Sprintf("/%d-%d", size, at)
			data := zeros(at) + "x" + zeros(size-at-1)
			for _, f := range all {
				lays(t, f, create(p), write(p, at, "x"), truncate(p, size))
			}
			tells(t, all, p, pieced("", data))
			for _, f := range all {
				lays(t, f, api.Call{Kind: api.CallUnlink, Path: p})
			}
		}
	}
}

// P24.1: holes are as zeros that were written, whatever lies where.
func TestHoles(t *testing.T) {
	all := laid(t, create("/f"), write("/f", 600, "x"), write("/f", 2000, "y"), write("/f", 3000, zeros(700)), truncate("/f", 5000), create("/g"), truncate("/g", 5000))
	tells(t, all, "/f", file("", 5000, zeros(88)+"x"+zeros(423)+zeros(464)+"y"+zeros(47), 1, 3))
	tells(t, all, "/g", file("", 5000, ""))
}

// P24.1, P24.5: a file of MaxFile bytes, with its first and last pieces and those about its tables.
func TestGreatestFile(t *testing.T) {
	last := api.MaxBlocks - 1
	row := []api.Call{create("/f"), write("/f", 0, "a"), write("/f", 512*9, "b"), write("/f", 512*10, "c"), write("/f", 512*137, "d"), write("/f", 512*138, "e"), write("/f", 512*9000+511, "f"), write("/f", 512*last, "g"), write("/f", api.MaxFile-1, "h"), create("/z"), truncate("/z", api.MaxFile)}
	one := func(s string) string { return s + zeros(511) }
	want := file("", api.MaxFile, one("a")+one("b")+one("c")+one("d")+one("e")+zeros(511)+"f"+"g"+zeros(510)+"h", 0, 9, 10, 137, 138, 9000, last)
	files := laid(t, row...)
	tells(t, files, "/f", want)
	tells(t, files, "/z", file("", api.MaxFile, ""))
	for _, f := range files {
		puts(t, f, "/g", []pack.Item{want}, api.OK)
		puts(t, f, "/y", []pack.Item{file("", api.MaxFile, "")}, api.OK)
	}
	tells(t, files, "/g", want)
	tells(t, files, "/y", file("", api.MaxFile, ""))
}

// P24.1: a file as great as a disk can hold, all pieces of which are there.
func TestFullFile(t *testing.T) {
	f := fresh(t, 1024)
	left := f.Do(api.Call{Kind: api.CallRoom}).Room.FreeBlocks - 12
	data := ""
	for p := range left {
		data += string([]byte{1 + byte(p%251)}) + rep(string([]byte{byte(p)}), 511)
	}
	lays(t, f, writes("/f", 0, data[:len(data)-300])...)
	tells(t, map[string]api.Caller{"vfs": f}, "/f", file("", len(data)-300, data[:len(data)-300], all(left)...))
}

// P24.1: symbolic links, as the top and below it, wherever they lead: none is followed.
func TestLinks(t *testing.T) {
	long := strings.TrimSuffix(rep("./", 512), "/") + "/"
	all := laid(t, mkdir("/d"), create("/d/f"), mkdir("/d/in"), create("/d/in/g"),
		symlink("/d/file", "f"), symlink("/d/in/dir", "/d"), symlink("/d/none", "x/y"), symlink("/d/up", ".."), symlink("/d/self", "self"), symlink("/d/root", "/"), symlink("/d/long", long), symlink("/out", "/d/in"), name("/d/none", "/none"))
	want := []pack.Item{dir(""), empty("f"), link("file", "f"), dir("in"), link("in/dir", "/d"), empty("in/g"), link("long", long), link("none", "x/y"), link("root", "/"), link("self", "self"), link("up", "..")}
	tells(t, all, "/d", want...)
	for p, text := range map[string]string{"/d/file": "f", "/d/in/dir": "/d", "/d/none": "x/y", "/d/up": "..", "/d/self": "self", "/d/root": "/", "/d/long": long, "/out": "/d/in", "/out/dir": "/d", "/none": "x/y", "/d/root/": "/", "/d/root//./": "/"} {
		tells(t, all, p, link("", text))
	}
	tells(t, all, "/out/.", link("", "/d/in"))
	// Where more of the path stands behind it, it is followed.
	tells(t, all, "/out/g", empty(""))
	tells(t, all, "/out/dir/in", dir(""), link("dir", "/d"), empty("g"))
	tells(t, all, "/out/..", want...)
	refuses(t, all, "/d/none/x", api.ErrNone)
	refuses(t, all, "/d/self/x", api.ErrLoop)
	refuses(t, all, "/d/file/x", api.ErrNotDir)
}

// P24.1: names of one file, or of one symbolic link, inside of the tree and outside of it.
func TestSeveralNames(t *testing.T) {
	row := []api.Call{mkdir("/d"), mkdir("/d/m"), mkdir("/o")}
	row = append(row, writes("/d/m/f", 0, "text")...)
	row = append(row, name("/d/m/f", "/d/z"), name("/d/z", "/d/a"), name("/d/a", "/o/f"), symlink("/o/l", "text"), name("/o/l", "/d/l"), name("/o/l", "/d/m/l"), create("/d/g"), name("/d/g", "/d/m/a"))
	all := laid(t, row...)
	tells(t, all, "/d", dir(""), file("a", 4, "text", 0), empty("g"), link("l", "text"), dir("m"), again("m/a", api.KindFile, 2), again("m/f", api.KindFile, 1), again("m/l", api.KindLink, 3), again("z", api.KindFile, 1))
	tells(t, all, "/d/m", dir(""), empty("a"), file("f", 4, "text", 0), link("l", "text"))
	tells(t, all, "/o", dir(""), file("f", 4, "text", 0), link("l", "text"))
	tells(t, all, "/o/f", file("", 4, "text", 0))
	tells(t, all, "/o/l", link("", "text"))
	tells(t, all, "/", dir(""), dir("d"), file("d/a", 4, "text", 0), empty("d/g"), link("d/l", "text"), dir("d/m"), again("d/m/a", api.KindFile, 3), again("d/m/f", api.KindFile, 2), again("d/m/l", api.KindLink, 4), again("d/z", api.KindFile, 2), dir("o"), again("o/f", api.KindFile, 2), again("o/l", api.KindLink, 4))
}

// P24.1: directories one in another, down to the deepest name.
func TestDeep(t *testing.T) {
	var row []api.Call
	want := []pack.Item{dir("")}
	p := ""
	for k := range 31 {
		p += "/" + rep("n", 1+k%27)
		row = append(row, mkdir(p))
		want = append(want, dir(p[1:]))
	}
	row = append(row, writes(p+"/f", 0, "x")...)
	want = append(want, file(p[1:]+"/f", 1, "x", 0))
	all := laid(t, row...)
	tells(t, all, "/", want...)
	tells(t, all, p, dir(""), file("f", 1, "x", 0))
	tells(t, all, p+"/f", file("", 1, "x", 0))
	// A path may have 32 components, of which '..' is one: of the top's path, or of one below it.
	for k := range want[1:] {
		refuses(t, all, "/n/../"+want[k+1].Path, api.ErrTooLong)
	}
}

// P24.1: a path with a '/' at its end, with '//', '.' and '..' in it: the calls are of just that path and what is behind it.
func TestPathsOfTheTop(t *testing.T) {
	f := laid(t, exampleCalls()...)
	for _, s := range []string{"/d", "/d/", "//d", "/d//", "/./d", "/d/.", "/d/./", "/d/../d", "/../d", "///.//d///"} {
		tells(t, f, s, exampleList()...)
	}
	whole := []pack.Item{dir("")}
	for _, x := range exampleList() {
		x.Path = strings.TrimSuffix("d/"+x.Path, "/")
		if x.Same >= 0 {
			x.Same++
		}
		whole = append(whole, x)
	}
	for _, s := range []string{"/", "//", "/.", "/./", "/..", "/d/..", rep("/", 1000)} {
		tells(t, f, s, whole...)
	}
	tells(t, f, "/d/a/", file("", 700, rep("x", 700), 0, 1))
}

// P24.1: what isn't there, and texts that are no path.
func TestRefusedTops(t *testing.T) {
	f := laid(t, exampleCalls()...)
	for s, want := range map[string]api.Errno{
		"/x": api.ErrNone, "/x/y": api.ErrNone, "/d/x": api.ErrNone, "/d/a/x": api.ErrNotDir, "/d/a/..": api.ErrNotDir, "/d/l/x": api.ErrNotDir,
		"": api.ErrInval, "d": api.ErrInval, "d/": api.ErrInval, "/d\x00": api.ErrInval, "\x00": api.ErrInval, ".": api.ErrInval,
		"/" + rep("x", 28): api.ErrTooLong, rep("/x", 33): api.ErrTooLong, rep("/", 1025): api.ErrTooLong, "/" + rep("x", 27): api.ErrNone, rep("/x", 32): api.ErrNone,
	} {
		refuses(t, f, s, want)
	}
}

// P24.1: the top's path may be, and one below it too long: that call's error.
func TestPathsTooLongBelow(t *testing.T) {
	f := laid(t, exampleCalls()...)
	for n := api.MaxPath - 4; n <= api.MaxPath+1; n++ {
		s := rep("/", n-1) + "d"
		if len(s+"/a") <= api.MaxPath {
			tells(t, f, s, exampleList()...)
		} else {
			refuses(t, f, s, api.ErrTooLong)
		}
		// Of "/" what is below it is longer by more.
		root := rep("/", n)
		if len(root+"d/a") <= api.MaxPath {
			tells(t, f, root, append([]pack.Item{dir("")}, tree(t, f["ram"], "/")[1:]...)...)
		} else {
			refuses(t, f, root, api.ErrTooLong)
		}
	}
}

// P24.1: the order of paths is that of names, not of the texts.
func TestOrder(t *testing.T) {
	row := []api.Call{mkdir("/a"), create("/a/b"), create("/a-c"), create("/a.b"), create("/a!"), mkdir("/a0"), create("/a0/\xff"), create("/a0/\x01"), create("/\xff"), create("/\x7f"), create("/\x80"), create("/\xc3\xa9"), create("/A"), create("/ "), create("/\x01"), create("/aa"), mkdir("/a/B"), create("/a/B/z"), create("/a/B-"), create("/a/B/" + rep("z", 27))}
	all := laid(t, row...)
	tells(t, all, "/", dir(""), empty("\x01"), empty(" "), empty("A"),
		dir("a"), dir("a/B"), empty("a/B/z"), empty("a/B/"+rep("z", 27)), empty("a/B-"), empty("a/b"),
		empty("a!"), empty("a-c"), empty("a.b"), dir("a0"), empty("a0/\x01"), empty("a0/\xff"), empty("aa"), empty("\x7f"), empty("\x80"), empty("\xc3\xa9"), empty("\xff"))
}

// P24.1: directories with no name, and with more than a block of them.
func TestManyNames(t *testing.T) {
	row := []api.Call{mkdir("/e"), mkdir("/d")}
	want := []pack.Item{dir("")}
	for k := range 50 {
		n := fmt.Sprintf("%02d", (k*37)%50)
		row = append(row, create("/d/"+n))
		want = append(want, empty(fmt.Sprintf("%02d", k)))
	}
	all := laid(t, row...)
	tells(t, all, "/d", want...)
	tells(t, all, "/e", dir(""))
	if !slices.IsSortedFunc(want, func(x, y pack.Item) int { return strings.Compare(x.Path, y.Path) }) {
		t.Fatal("the names aren't in order")
	}
}
