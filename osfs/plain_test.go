package osfs_test

import (
	"bytes"
	"errors"
	"fmt"
	"maps"
	"math/rand"
	"slices"
	"strings"
	"testing"

	"bole/api"
	"bole/osfs"
)

// leaf is a file as a plain row of bytes.
type leaf struct{ bytes []byte }

// hand is an open file of one.
type hand struct {
	*leaf
	f     *osfs.File
	place int
	flags int
}

// plain is a tree as plain lists of names: directories, and files with their bytes, by their paths; "/" isn't among them.
type plain struct {
	*rand.Rand
	*desk
	dirs  map[string]int
	files map[string]*leaf
	hands []*hand
}

// path is one of few, up to three deep.
func (a *plain) path() string {
	s := ""
	for range 1 + a.Intn(3) {
		s += "/" + []string{"a", "b", "c"}[a.Intn(3)]
	}
	return s
}

// above is what is wrong with the row of directories above a path.
func (a *plain) above(p string) error {
	for i := 1; i < len(p); i++ {
		if p[i] != '/' {
			continue
		}
		if a.files[p[:i]] != nil {
			return api.ErrNotDir
		}
		if a.dirs[p[:i]] == 0 {
			return osfs.ErrNotExist
		}
	}
	return nil
}

// is holds that an error is just this, or that there is none.
func (a *plain) is(what string, err, want error) {
	a.t.Helper()
	if want == nil && err != nil || want != nil && !errors.Is(err, want) {
		a.t.Fatalf("P22.11: %s: %v, want %v", what, err, want)
	}
}

// names are those of a directory, in their order.
func (a *plain) names(dir string) []string {
	var l []string
	for _, p := range slices.Concat(slices.Collect(maps.Keys(a.dirs)), slices.Collect(maps.Keys(a.files))) {
		if parent(p) == strings.TrimSuffix(dir, "/") {
			l = append(l, p[strings.LastIndex(p, "/")+1:])
		}
	}
	slices.Sort(l)
	return l
}

// all are the paths of a tree, each directory ahead of what it has.
func (a *plain) all(p string) []string {
	l := []string{p}
	for _, name := range a.names(p) {
		l = append(l, a.all(strings.TrimSuffix(p, "/")+"/"+name)...)
	}
	return l
}

func (a *plain) writeFile(p string) {
	data := bytes.Repeat([]byte(fmt.Sprint(a.Intn(100), ";")), 10000)[:a.Intn(1000)*(1+a.Intn(2)*19)]
	err := a.WriteFile(p, data)
	want := a.above(p)
	if want == nil && a.dirs[p] > 0 {
		want = api.ErrIsDir
	}
	a.is("WriteFile "+p, err, want)
	if want != nil {
		return
	}
	if a.files[p] == nil {
		a.files[p] = &leaf{}
	}
	a.files[p].bytes = bytes.Clone(data)
}

func (a *plain) readFile(p string) {
	got, err := a.ReadFile(p)
	want := a.above(p)
	switch {
	case want != nil:
	case a.dirs[p] > 0:
		want = api.ErrIsDir
	case a.files[p] == nil:
		want = osfs.ErrNotExist
	case !bytes.Equal(got, a.files[p].bytes):
		a.t.Fatalf("P22.11: ReadFile(%q) is %s, want %s", p, short(got), short(a.files[p].bytes))
	}
	a.is("ReadFile "+p, err, want)
}

func (a *plain) mkdirAll(p string) {
	var want error
	parts := strings.Split(p, "/")
	for k := 2; k <= len(parts) && want == nil; k++ {
		q := strings.Join(parts[:k], "/")
		if a.files[q] != nil {
			want = api.ErrNotDir
		} else {
			a.dirs[q] = 1
		}
	}
	a.is("MkdirAll "+p, a.MkdirAll(p), want)
	if s, err := a.Stat(p); want == nil && (s.Kind != api.KindDir || err != nil) {
		a.t.Fatalf("P22.11: behind MkdirAll(%q) Stat is %+v, %v", p, s, err)
	}
}

// drops takes a path and all below it off the lists.
func (a *plain) drops(p string) {
	maps.DeleteFunc(a.dirs, func(q string, _ int) bool { return under(q, p) })
	maps.DeleteFunc(a.files, func(q string, _ *leaf) bool { return under(q, p) })
}

func (a *plain) remove(p string) {
	want := a.above(p)
	switch {
	case want != nil:
	case a.dirs[p] > 0 && len(a.names(p)) > 0:
		want = osfs.ErrExist
	case a.dirs[p] == 0 && a.files[p] == nil:
		want = osfs.ErrNotExist
	default:
		a.drops(p)
	}
	a.is("Remove "+p, a.Remove(p), want)
}

func (a *plain) removeAll(p string) {
	want := a.above(p)
	if want == osfs.ErrNotExist {
		want = nil
	}
	if want == nil {
		a.drops(p)
	}
	a.is("RemoveAll "+p, a.RemoveAll(p), want)
	if _, err := a.Lstat(p); want == nil && !errors.Is(err, osfs.ErrNotExist) {
		a.t.Fatalf("P22.11: behind RemoveAll(%q) Lstat is %v", p, err)
	}
}

// rename gives a file a name that nothing has.
func (a *plain) rename(p, q string) {
	if a.files[p] == nil || a.above(q) != nil || a.files[q] != nil || a.dirs[q] > 0 {
		return
	}
	a.is("Rename", a.Rename(p, q), nil)
	a.files[q] = a.files[p]
	delete(a.files, p)
}

func (a *plain) open(p string) {
	flags := []int{r, rw, rw | create, rw | create | behind, w | trunc | create}[a.Intn(5)]
	f, err := a.OpenFile(p, flags)
	want := a.above(p)
	switch {
	case len(a.hands) == 16:
		want = osfs.ErrNoRoom
	case want != nil:
	case a.dirs[p] > 0:
		want = api.ErrIsDir
	case a.files[p] == nil && flags&create == 0:
		want = osfs.ErrNotExist
	}
	a.is("OpenFile "+p, err, want)
	if want != nil {
		return
	}
	if a.files[p] == nil {
		a.files[p] = &leaf{}
	}
	if flags&trunc != 0 {
		a.files[p].bytes = nil
	}
	a.hands = append(a.hands, &hand{a.files[p], f, 0, flags})
}

func (a *plain) read(h *hand) {
	p := make([]byte, a.Intn(3000)*(1+a.Intn(2)*12))
	n, err := h.f.Read(p)
	from := min(h.place, len(h.bytes))
	want := h.bytes[from:min(from+len(p), len(h.bytes))]
	switch {
	case len(p) == 0:
		a.is("Read", err, nil)
		want = nil
	case h.flags&r == 0:
		a.is("Read", err, api.ErrAccess)
		want = nil
	case len(want) == 0:
		a.is("Read", err, osfs.EOF)
	default:
		a.is("Read", err, nil)
	}
	if !bytes.Equal(p[:n], want) {
		a.t.Fatalf("P22.3: Read: %s, want %s", short(p[:n]), short(want))
	}
	h.place += n
}

func (a *plain) write(h *hand) {
	p := bytes.Repeat([]byte(fmt.Sprint(a.Intn(100), ", ")), 10000)[:a.Intn(1200)*(1+a.Intn(2)*15)*a.Intn(3)/2]
	n, err := h.f.Write(p)
	if h.flags&w == 0 {
		a.is("Write", err, osfs.ErrInvalid)
		return
	}
	a.is("Write", err, nil)
	if h.flags&behind != 0 {
		h.place = len(h.bytes)
	}
	if n != len(p) {
		a.t.Fatalf("P22.4: Write of %d: %d", len(p), n)
	}
	if len(p) == 0 {
		return
	}
	if more := h.place + len(p) - len(h.bytes); more > 0 {
		h.bytes = append(h.bytes, make([]byte, more)...)
	}
	copy(h.bytes[h.place:], p)
	h.place += len(p)
}

func (a *plain) seek(h *hand) {
	to, whence := a.Intn(min(40000, len(h.bytes)+300)), a.Intn(3)
	n, err := h.f.Seek(int64(to-[]int{0, h.place, len(h.bytes)}[whence]), whence)
	a.is("Seek", err, nil)
	if n != int64(to) {
		a.t.Fatalf("P22.5: Seek: %d, want %d", n, to)
	}
	h.place = to
}

func (a *plain) ofHand() {
	k := a.Intn(len(a.hands))
	h := a.hands[k]
	switch a.Intn(9) {
	case 0, 1, 2:
		a.read(h)
	case 3, 4, 5:
		a.write(h)
	case 6, 7:
		a.seek(h)
	default:
		a.is("Close", h.f.Close(), nil)
		a.hands = slices.Delete(a.hands, k, k+1)
	}
}

func (a *plain) step() {
	p := a.path()
	if len(a.hands) > 0 && a.Intn(2) == 0 {
		a.ofHand()
		return
	}
	switch a.Intn(15) {
	case 0, 1, 2:
		a.writeFile(p)
	case 3, 4:
		a.readFile(p)
	case 5, 6, 7:
		a.mkdirAll(p)
	case 8:
		a.remove(p)
	case 9:
		a.removeAll(p)
	case 10, 11:
		a.rename(p, a.path())
	default:
		a.open(p)
	}
}

// hold holds all names and bytes: by Walk, ReadDir and ReadFile.
func (a *plain) hold() {
	a.t.Helper()
	want := a.all("/")
	l, err := a.walks("/", nil)
	if pathsOf(l) != strings.Join(want, " ") || err != nil {
		a.t.Fatalf("P22.11: Walk tells %q, %v, want %q", pathsOf(l), err, want)
	}
	for _, v := range l {
		if isDir := v.path == "/" || a.dirs[v.path] > 0; v.isDir() != isDir || v.err != nil {
			a.t.Fatalf("P22.10: of %s is told %+v, %v", v.path, v.s, v.err)
		}
		if v.isDir() {
			if names, err := a.ReadDir(v.path); !slices.Equal(names, a.names(v.path)) || err != nil {
				a.t.Fatalf("P22.7: ReadDir(%q) is %q, %v", v.path, names, err)
			}
		} else if len(a.hands) < 16 {
			a.readFile(v.path)
		}
	}
	a.numbers(len(a.hands))
}

// P22.11: rows of calls held against plain rows of bytes and lists of names.
func TestPlainRows(t *testing.T) {
	t.Parallel()
	for seed := range int64(40) {
		a := &plain{Rand: rand.New(rand.NewSource(seed)), desk: fresh(t, 16384), dirs: map[string]int{}, files: map[string]*leaf{}}
		for i := range 300 {
			a.step()
			if i%15 == 0 {
				a.hold()
			}
		}
		a.hold()
		for _, h := range a.hands {
			good(t, "Close", h.f.Close())
		}
		a.hands = nil
		a.hold()
		a.right("a row of calls")
	}
}
