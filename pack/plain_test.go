package pack_test

import (
	"bytes"
	"encoding/binary"
	"hash/crc32"
	"slices"
	"strings"

	"bole/api"
	"bole/pack"
)

// The chapter's words said plainly.

func plainNames(path string) []string {
	if path == "" {
		return nil
	}
	return strings.Split(path, "/")
}

// plainAhead tells whether a path stands ahead of another one in the order of paths.
func plainAhead(a, b string) bool {
	x, y := plainNames(a), plainNames(b)
	for i := range min(len(x), len(y)) {
		if x[i] != y[i] {
			return x[i] < y[i]
		}
	}
	return len(x) < len(y)
}

func plainName(s string) bool {
	return len(s) >= 1 && len(s) <= 27 && !strings.ContainsAny(s, "/\x00") && s != "." && s != ".."
}

// plainText is whether a text may be a symbolic link's.
func plainText(s string) bool {
	count := 0
	for _, c := range strings.Split(s, "/") {
		if c != "" && c != "." {
			count++
		}
		if len(c) > 27 {
			return false
		}
	}
	return len(s) >= 1 && len(s) <= 1024 && !strings.Contains(s, "\x00") && count <= 32
}

// plainWrong is what makes a list no right one; "": nothing.
func plainWrong(l []pack.Item) string {
	if len(l) == 0 {
		return "no item"
	}
	for i, x := range l {
		if wrong := plainWrongPath(l, i); wrong != "" {
			return wrong
		}
		if x.Kind != 1 && x.Kind != 2 && x.Kind != 3 {
			return "Kind"
		}
		if wrong := plainWrongSame(l, i); wrong != "" {
			return wrong
		}
		if wrong := plainWrongInside(x); wrong != "" {
			return wrong
		}
	}
	return ""
}

func plainWrongPath(l []pack.Item, i int) string {
	p := l[i].Path
	if i == 0 {
		if p != "" {
			return "the first Path"
		}
		return ""
	}
	names := plainNames(p)
	if len(names) < 1 || len(names) > 32 {
		return "how many names"
	}
	for _, n := range names {
		if !plainName(n) {
			return "a name"
		}
	}
	if !plainAhead(l[i-1].Path, p) {
		return "the order"
	}
	above := strings.Join(names[:len(names)-1], "/")
	for _, x := range l {
		if x.Path == above && x.Kind == api.KindDir {
			return ""
		}
	}
	return "no directory"
}

func plainWrongSame(l []pack.Item, i int) string {
	x := l[i]
	switch {
	case x.Same == -1:
	case x.Same < 0 || x.Same >= i:
		return "Same is no earlier one"
	case l[x.Same].Kind != x.Kind:
		return "Same is of another Kind"
	case x.Kind != api.KindFile && x.Kind != api.KindLink:
		return "Same of a directory"
	case l[x.Same].Same != -1:
		return "Same of one with a Same"
	}
	return ""
}

func plainWrongInside(x pack.Item) string {
	switch {
	case x.Kind == api.KindDir || x.Same != -1:
		if x.Size != 0 || x.Data != "" || len(x.Pieces) != 0 {
			return "more than may be there"
		}
	case x.Kind == api.KindFile:
		return plainWrongFile(x)
	case !plainText(x.Data):
		return "text"
	case x.Size != len(x.Data):
		return "a text's Size"
	case len(x.Pieces) != 0:
		return "a text's Pieces"
	}
	return ""
}

func plainWrongFile(x pack.Item) string {
	if x.Size < 0 || x.Size > 8459264 {
		return "Size"
	}
	long := 0
	for k, p := range x.Pieces {
		if p < 0 || p >= 16522 || 512*p >= x.Size || k > 0 && p <= x.Pieces[k-1] {
			return "Pieces"
		}
		long += plainLen(x.Size, p)
	}
	if len(x.Data) != long {
		return "Data's length"
	}
	for _, part := range plainParts(x) {
		if strings.Trim(part, "\x00") == "" {
			return "a piece of zeros"
		}
	}
	return ""
}

// plainLen is how many bytes a file of this size has from 512 p on, 512 at most.
func plainLen(size, p int) int {
	if size-512*p < 512 {
		return size - 512*p
	}
	return 512
}

// plainParts are the pieces' bytes of a file in a right list.
func plainParts(x pack.Item) []string {
	var parts []string
	at := 0
	for _, p := range x.Pieces {
		n := plainLen(x.Size, p)
		parts = append(parts, x.Data[at:at+n])
		at += n
	}
	return parts
}

// plainBytes are the bytes of a list, whether it is right or not. (Numbers that are too great for their bytes lose what is too much.)
func plainBytes(l []pack.Item) []byte {
	b := []byte("BOLEPAK1")
	b = binary.LittleEndian.AppendUint32(b, uint32(len(l)))
	for _, x := range l {
		b = append(b, byte(x.Kind))
		b = binary.LittleEndian.AppendUint16(b, uint16(len(x.Path)))
		b = append(b, x.Path...)
		b = binary.LittleEndian.AppendUint32(b, uint32(x.Same+1))
		b = binary.LittleEndian.AppendUint32(b, uint32(x.Size))
		b = binary.LittleEndian.AppendUint32(b, uint32(len(x.Pieces)))
		for _, p := range x.Pieces {
			b = binary.LittleEndian.AppendUint32(b, uint32(p))
		}
		b = binary.LittleEndian.AppendUint32(b, uint32(len(x.Data)))
		b = append(b, x.Data...)
	}
	return sealed(b)
}

// sealed is bytes with their sum behind them.
func sealed(b []byte) []byte {
	return binary.LittleEndian.AppendUint32(slices.Clone(b), crc32.ChecksumIEEE(b))
}

// open is what stands ahead of the sum.
func open(b []byte) []byte { return b[:len(b)-4] }

// plainList is the right list whose bytes these are, and whether there is one: what the bytes say is read as far as they reach, and then held against them.
func plainList(b []byte) ([]pack.Item, bool) {
	if len(b) < 16 {
		return nil, false
	}
	at, fail := 8, false
	next := func(n int) []byte {
		if fail || n > len(b)-4-at {
			fail = true
			return make([]byte, 4)
		}
		at += n
		return b[at-n : at]
	}
	word := func() int { return int(binary.LittleEndian.Uint32(next(4))) }
	var l []pack.Item
	for count := word(); count > 0 && !fail; count-- {
		var x pack.Item
		x.Kind = int(next(1)[0])
		x.Path = string(next(int(binary.LittleEndian.Uint16(next(2)))))
		x.Same = word() - 1
		x.Size = word()
		for n := word(); n > 0 && !fail; n-- {
			x.Pieces = append(x.Pieces, word())
		}
		x.Data = string(next(word()))
		l = append(l, x)
	}
	if fail || plainWrong(l) != "" || !bytes.Equal(plainBytes(l), b) {
		return nil, false
	}
	return l, true
}

// plainAt is the path of an item at s.
func plainAt(s, path string) string {
	if path == "" {
		return s
	}
	if s != "" && s[len(s)-1] == '/' {
		return s + path
	}
	return s + "/" + path
}

// plainCalls are those that Put makes of a right list.
func plainCalls(s string, l []pack.Item) []api.Call {
	var row []api.Call
	for _, x := range l {
		p := plainAt(s, x.Path)
		switch {
		case x.Same != -1:
			row = append(row, name(plainAt(s, l[x.Same].Path), p))
		case x.Kind == api.KindDir:
			row = append(row, mkdir(p))
		case x.Kind == api.KindLink:
			row = append(row, symlink(p, x.Data))
		default:
			row = append(row, create(p))
			end := 0
			for k, part := range plainParts(x) {
				row = append(row, write(p, 512*x.Pieces[k], part))
				end = 512*x.Pieces[k] + len(part)
			}
			if x.Size > end {
				row = append(row, truncate(p, x.Size))
			}
		}
	}
	return row
}

// thing is what the calls of a file system tell of a path.
type thing struct {
	path string // below the top
	stat api.Stat
	data string // a file's bytes, a symbolic link's text
}

// things are those at a path and below it, in the order of paths; none with an error.
func things(f api.Caller, s string) ([]thing, api.Errno) {
	paths, wrong := []string{""}, api.OK
	ask := func(c api.Call) api.Answer {
		a := f.Do(c)
		if a.Err != api.OK && wrong == api.OK {
			wrong = a.Err
		}
		return a
	}
	var l []thing
	for k := 0; k < len(paths) && wrong == api.OK; k++ {
		at := plainAt(s, paths[k])
		x := thing{path: paths[k], stat: ask(api.Call{Kind: api.CallLstat, Path: at}).Stat}
		switch x.stat.Kind {
		case api.KindFile:
			for len(x.data) < x.stat.Size && wrong == api.OK {
				x.data += ask(api.Call{Kind: api.CallRead, Path: at, Offset: len(x.data), Size: 1 + (len(x.data)+4999)%api.MaxIO}).Data
			}
		case api.KindLink:
			x.data = ask(api.Call{Kind: api.CallReadlink, Path: at}).Data
		case api.KindDir:
			for _, n := range ask(api.Call{Kind: api.CallReaddir, Path: at}).Names {
				paths = append(paths, strings.TrimPrefix(x.path+"/"+n, "/"))
			}
		}
		l = append(l, x)
	}
	if wrong != api.OK {
		return nil, wrong
	}
	slices.SortFunc(l, func(x, y thing) int {
		if plainAhead(x.path, y.path) {
			return -1
		}
		return 1
	})
	return l, api.OK
}

// plainTree is the right list of some things.
func plainTree(l []thing) []pack.Item {
	var items []pack.Item
	for i, x := range l {
		y := pack.Item{Path: x.path, Kind: x.stat.Kind, Same: -1}
		first := slices.IndexFunc(l, func(z thing) bool { return z.stat.Inode == x.stat.Inode })
		switch {
		case first < i:
			y.Same = first
		case x.stat.Kind == api.KindLink:
			y.Size, y.Data = len(x.data), x.data
		case x.stat.Kind == api.KindFile:
			y.Size = len(x.data)
			for p := 0; 512*p < len(x.data); p++ {
				part := x.data[512*p:]
				if len(part) > 512 {
					part = part[:512]
				}
				if strings.Count(part, "\x00") < len(part) {
					y.Pieces = append(y.Pieces, p)
					y.Data += part
				}
			}
		}
		items = append(items, y)
	}
	return items
}

// plainSame tells whether two rows of things are the same tree: names, kinds, symbolic links, which names are one, sizes, bytes.
func plainSame(a, b []thing) bool {
	if len(a) != len(b) {
		return false
	}
	for i, x := range a {
		y := b[i]
		if x.path != y.path || x.stat.Kind != y.stat.Kind || x.data != y.data {
			return false
		}
		// A directory's Size tells how many names it once had too.
		if x.stat.Kind != api.KindDir && x.stat.Size != y.stat.Size {
			return false
		}
		for j := range i {
			if (a[j].stat.Inode == x.stat.Inode) != (b[j].stat.Inode == y.stat.Inode) {
				return false
			}
		}
	}
	return true
}
