package osfs_test

import (
	"errors"
	"fmt"
	"math"
	"math/rand"
	"reflect"
	"strings"
	"testing"

	"bole/api"
	"bole/osfs"
	"bole/ram"
)

// turn is what fn answers, and does by the calls below ahead of that, when it is called for the at-th time.
type turn struct {
	at   int
	says error
	does api.Call
}

// op is a call with its arguments.
type op struct {
	name   string
	a, b   string // paths
	data   string
	n      int // flags, or how many bytes
	file   int
	off    int64
	whence int
	turns  []turn
}

// out is all that a call answers.
type out struct {
	n      int64
	data   string
	stat   api.Stat
	names  string
	visits []string
	err    string
}

func (p op) String() string {
	return fmt.Sprintf("%s(%.60q, %.60q, %d bytes, %d, file %d, %d, %d, %v)", p.name, p.a, p.b, len(p.data), p.n, p.file, p.off, p.whence, p.turns)
}

func (o out) String() string {
	return fmt.Sprintf("%d, %.60q (%d bytes), %+v, %q, %q, %q", o.n, o.data, len(o.data), o.stat, o.names, o.visits, o.err)
}

// textOf is an error's text; of one of this layer's own it holds all that is said of it.
func textOf(t *testing.T, err error) string {
	t.Helper()
	switch x := err.(type) {
	case nil:
		return ""
	case *osfs.LinkError:
		var e api.Errno
		errors.As(err, &e)
		failsTwo(t, err, "rename", x.Old, x.New, e)
	case *osfs.PathError:
		var e api.Errno
		if errors.As(err, &e) {
			fails(t, err, x.Op, x.Path, e)
		} else {
			isClosed(t, err, x.Op, x.Path)
		}
	}
	return err.Error()
}

// fn is a function of a Walk that takes its turns, and writes down what it is told.
func (p op) fn(f floor, told *[]string) func(path string, s api.Stat, w string) error {
	calls := 0
	return func(path string, s api.Stat, w string) error {
		calls++
		*told = append(*told, fmt.Sprintf("%s %+v %s", path, s, w))
		for _, turn := range p.turns {
			if turn.at == calls {
				f.Do(turn.does)
				return turn.says
			}
		}
		return nil
	}
}

// row is a row of any calls, beside the same on paper.
type row struct {
	*rand.Rand
	*desk
	x     *paper
	files []*osfs.File
	count map[string]int
	keeps bool // files stay open till the end
}

// ofFile makes a call of an open file.
func (a *row) ofFile(p op) (o out, err error) {
	f := a.files[p.file]
	switch p.name {
	case "Read":
		var n int
		b := []byte(rep("#", p.n+20))
		n, err = f.Read(b[10 : 10+p.n])
		o.n, o.data = int64(n), string(b[10:10+n])
		holdsWithin(a.t, b, []byte(o.data))
	case "Write":
		var n int
		n, err = f.Write([]byte(p.data))
		o.n = int64(n)
	case "Seek":
		o.n, err = f.Seek(p.off, p.whence)
	case "Close":
		err = f.Close()
	}
	return o, err
}

// on makes the call.
func (a *row) on(p op) out {
	var o out
	var err error
	switch p.name {
	case "OpenFile":
		var f *osfs.File
		if f, err = a.OpenFile(p.a, p.n); f != nil {
			a.files = append(a.files, f)
			o.data = f.Name()
		}
	case "Read", "Write", "Seek", "Close":
		o, err = a.ofFile(p)
	case "ReadFile":
		var b []byte
		b, err = a.ReadFile(p.a)
		o.data = string(b)
	case "WriteFile":
		err = a.WriteFile(p.a, []byte(p.data))
	case "Mkdir":
		err = a.Mkdir(p.a)
	case "MkdirAll":
		err = a.MkdirAll(p.a)
	case "Remove":
		err = a.Remove(p.a)
	case "RemoveAll":
		err = a.RemoveAll(p.a)
	case "Rename":
		err = a.Rename(p.a, p.b)
	case "Stat":
		o.stat, err = a.Stat(p.a)
	case "Lstat":
		o.stat, err = a.Lstat(p.a)
	case "ReadDir":
		var l []string
		l, err = a.ReadDir(p.a)
		o.names = strings.Join(l, "/")
	case "Walk":
		fn := p.fn(a.table, &o.visits)
		err = a.Walk(p.a, func(path string, s api.Stat, err error) error { return fn(path, s, textOf(a.t, err)) })
	case "Do":
		o.err = fmt.Sprint(int(a.call(p.n, p.a, p.b).Err))
		return o
	}
	o.err = textOf(a.t, err)
	return o
}

// ofPage is ofFile on paper.
func (x *paper) ofPage(p op) (o out) {
	f := x.pages[p.file]
	switch p.name {
	case "Read":
		o.data, o.err = x.read(f, p.n)
		o.n = int64(len(o.data))
	case "Write":
		var n int
		n, o.err = x.write(f, p.data)
		o.n = int64(n)
	case "Seek":
		o.n, o.err = x.seek(f, p.off, p.whence)
	case "Close":
		o.err = x.close(f)
	}
	return o
}

// on makes the call on paper.
func (x *paper) on(p op) out {
	var o out
	switch p.name {
	case "OpenFile":
		var f *page
		if f, o.err = x.openFile(p.a, p.n); f != nil {
			x.pages = append(x.pages, f)
			o.data = p.a
		}
	case "Read", "Write", "Seek", "Close":
		return x.ofPage(p)
	case "ReadFile":
		o.data, o.err = x.readFile(p.a)
	case "WriteFile":
		o.err = x.writeFile(p.a, p.data)
	case "Mkdir":
		o.err = wrong("mkdir", p.a, x.do(api.CallMkdir, p.a).Err)
	case "MkdirAll":
		o.err = x.mkdirAll(p.a)
	case "Remove":
		o.err = x.remove(p.a)
	case "RemoveAll":
		o.err = x.removeAll(p.a)
	case "Rename":
		o.err = x.rename(p.a, p.b)
	case "Stat":
		a := x.do(api.CallStat, p.a)
		o.stat, o.err = a.Stat, wrong("stat", p.a, a.Err)
	case "Lstat":
		a := x.do(api.CallLstat, p.a)
		o.stat, o.err = a.Stat, wrong("lstat", p.a, a.Err)
	case "ReadDir":
		a := x.do(api.CallReaddir, p.a)
		o.names, o.err = strings.Join(a.Names, "/"), wrong("readdir", p.a, a.Err)
	case "Walk":
		fn := p.fn(x.floor, &o.visits)
		o.err = x.walk(p.a, func(path string, s api.Stat, w string) string {
			if err := fn(path, s, w); err != nil {
				return err.Error()
			}
			return ""
		})
	case "Do":
		o.err = fmt.Sprint(int(x.Do(api.Call{Kind: p.n, Path: p.a, Other: p.b}).Err))
	}
	return o
}

// both makes a call here and on paper.
func (a *row) both(p op) {
	a.t.Helper()
	got, want := a.on(p), a.x.on(p)
	if !reflect.DeepEqual(got, want) {
		a.t.Fatalf("chapter 22: %v: %v, want %v", p, got, want)
	}
	words := strings.Fields(got.err)
	if len(words) > 2 {
		words = []string{words[0], words[len(words)-1]}
	}
	a.count[strings.Join(append([]string{p.name}, words...), " ")]++
	if p.name == "Walk" && len(got.visits) > 3 {
		a.count["Walk of several"]++
	}
}

// path is any path, most often of what may be there.
func (a *row) path() string {
	if a.Intn(25) == 0 {
		l := paths()
		return l[a.Intn(len(l))]
	}
	s := ""
	for range 1 + a.Intn(3)*a.Intn(2) {
		s += []string{"/", "/", "/", "/", "//", "/./", "/../"}[a.Intn(7)%(1+a.Intn(7))] + []string{"a", "b", "c", "d", "e", "l"}[a.Intn(6)]
	}
	if a.Intn(12) == 0 {
		s += []string{"/", "/.", "/.."}[a.Intn(3)]
	}
	return s
}

func (a *row) text() string {
	n := []int{0, 1, 5, 100, 512, 700, 3000, 16383, 16384, 16385, 33000, 50000}[a.Intn(12)%(1+a.Intn(12))]
	return rep(fmt.Sprint(a.Intn(1000), ","), n)[:n]
}

func (a *row) flags() int {
	if a.Intn(20) == 0 {
		return a.Intn(80) - 8
	}
	return []int{r, w | create, rw | create, rw, rw | create | behind, rw | create | trunc, w | create | excl}[a.Intn(7)]
}

// below is a call of the table, which changes the tree beside this layer.
func (a *row) below() api.Call {
	switch a.Intn(4) {
	case 0:
		return api.Call{Kind: api.CallSymlink, Path: a.path(), Other: []string{"a", "..", "/d", "b/c", "/", "l"}[a.Intn(6)]}
	case 1:
		return api.Call{Kind: api.CallLink, Path: a.path(), Other: a.path()}
	case 2:
		return api.Call{Kind: []int{api.CallUnlink, api.CallRmdir, api.CallCreate, api.CallMkdir}[a.Intn(4)], Path: a.path()}
	}
	return api.Call{Kind: api.CallRename, Path: a.path(), Other: a.path()}
}

func (a *row) walk() op {
	p := op{name: "Walk", a: a.path()}
	if a.Intn(3) == 0 {
		p.a = "/"
	}
	for range a.Intn(4) {
		p.turns = append(p.turns, turn{1 + a.Intn(9), []error{nil, nil, osfs.SkipDir, osfs.SkipDir, osfs.SkipAll, errOwn}[a.Intn(6)], a.below()})
	}
	return p
}

// ofOne is a call of a file, most often of one that is open.
func (a *row) ofOne() op {
	file := a.Intn(len(a.files))
	for range 6 {
		if a.x.pages[file].closed {
			file = a.Intn(len(a.files))
		}
	}
	p := op{name: []string{"Read", "Write", "Seek", "Read", "Write", "Close"}[a.Intn(6)%(1+a.Intn(6))], file: file, data: a.text(), n: []int{0, 1, 10, 600, 16384, 16385, 40000}[a.Intn(7)]}
	p.whence = a.Intn(4)
	p.off = []int64{0, 1, 5, -5, 300, 2000, 20000, -2000, api.MaxFile, math.MaxInt64, math.MinInt64}[a.Intn(11)]
	if a.keeps && p.name == "Close" {
		p.name = "Read"
	}
	return p
}

// any is any call.
func (a *row) any() op {
	if len(a.files) > 0 && a.Intn(3) == 0 {
		return a.ofOne()
	}
	name := []string{"OpenFile", "OpenFile", "OpenFile", "ReadFile", "WriteFile", "WriteFile", "WriteFile", "Mkdir", "MkdirAll", "Remove", "RemoveAll", "Rename", "Stat", "Lstat", "ReadDir", "Walk", "Do"}[a.Intn(17)]
	if a.keeps && a.Intn(5) == 0 {
		name = "OpenFile"
	}
	switch name {
	case "Walk":
		return a.walk()
	case "Do":
		c := a.below()
		return op{name: "Do", n: c.Kind, a: c.Path, b: c.Other}
	}
	return op{name: name, a: a.path(), b: a.path(), data: a.text(), n: a.flags()}
}

// closesAll closes all files.
func (a *row) closesAll() {
	a.t.Helper()
	for k, f := range a.x.pages {
		if !f.closed {
			a.both(op{name: "Close", file: k})
		}
	}
	a.numbers(0)
	a.files, a.x.pages = nil, nil
}

// saw holds that these came out of calls.
func saw(t *testing.T, count map[string]int, whats ...string) {
	t.Helper()
	for _, what := range whats {
		if count[what] == 0 {
			t.Errorf("%q came out of no call: %v", what, count)
			return
		}
	}
}

// Chapter 22, P0.9: rows of any calls, held against the chapter word by word over the file system in memory.
func TestRows(t *testing.T) {
	t.Parallel()
	count := map[string]int{}
	for seed := range int64(60) {
		draw := rand.New(rand.NewSource(seed))
		n := []int{128, 256, 600}[draw.Intn(3)]
		m, e := ram.New(n)
		if e != api.OK {
			t.Fatalf("P18.1: New(%d): %d", n, e)
		}
		a := &row{Rand: draw, desk: fresh(t, n), x: &paper{floor: &inMemory{m: m}}, count: count, keeps: seed%4 == 0}
		for i := range 400 {
			a.both(a.any())
			if i%150 == 0 {
				a.closesAll()
				a.right("all Closes")
			}
		}
		a.closesAll()
		a.both(op{name: "Walk", a: "/"})
		a.right("a row of calls")
	}
	saw(t, count,
		"OpenFile", "OpenFile open E1", "OpenFile open E150", "OpenFile open E160", "OpenFile open E161", "OpenFile open E170", "OpenFile open E211",
		"Read", "Read osfs: end", "Read read E212", "Read read closed", "Write", "Write write E90", "Write write E120", "Write write E212", "Write write closed", "Seek", "Seek seek E1", "Seek seek closed",
		"Close", "Close close closed", "ReadFile", "ReadFile open E160", "ReadFile open E170", "WriteFile", "WriteFile write E90", "WriteFile open E170", "WriteFile open E160",
		"Mkdir", "Mkdir mkdir E150", "Mkdir mkdir E160", "MkdirAll", "MkdirAll mkdir E161", "MkdirAll mkdir E150", "Remove", "Remove remove E171", "Remove remove E160", "RemoveAll", "RemoveAll remove E161", "RemoveAll remove E1",
		"Rename", "Rename rename E160", "Stat", "Stat stat E160", "Lstat", "Lstat lstat E160", "ReadDir", "ReadDir readdir E161", "Walk", "Walk own", "Walk of several")
}

// Chapter 22, W2, P0.2: rows of any calls with power cuts, held against the chapter word by word over a table on a twin of the disk: the answers, every step, and what lasts.
func TestRowsWithPowerCuts(t *testing.T) {
	t.Parallel()
	count := map[string]int{}
	for seed := range int64(40) {
		draw := rand.New(rand.NewSource(seed))
		b := fresh(t, 200)
		twin := b.twin()
		a := &row{Rand: draw, desk: b.twin(), x: &paper{floor: twin.table}, count: count}
		for range 12 {
			cut := api.Crash{At: 1 + draw.Intn(200), Keep: []bool{draw.Intn(2) == 0, draw.Intn(2) == 0, true, draw.Intn(2) == 0}}
			a.d.Arm(cut)
			twin.d.Arm(cut)
			for k := 0; k < 6; {
				a.both(a.any())
				if a.steps() != twin.steps() || a.d.Down() != twin.d.Down() {
					t.Fatalf("chapter 22: %d steps, want %d", a.steps(), twin.steps())
				}
				if a.d.Down() {
					k++
				}
			}
			if !reflect.DeepEqual(a.table.Numbers(), twin.table.Numbers()) {
				t.Fatalf("chapter 22: open are %v, want %v", a.table.Numbers(), twin.table.Numbers())
			}
			a.closesAll()
			if string(a.d.Image()) != string(twin.d.Image()) {
				t.Fatalf("chapter 22: the disk is another one behind a power cut")
			}
			twin = twin.twin()
			a.desk, a.x = a.desk.twin(), &paper{floor: twin.table}
			a.right("a mount")
			a.both(op{name: "Walk", a: "/"})
		}
	}
	saw(t, count, "WriteFile open E30", "WriteFile write E30", "Write write E30", "Read read E30", "Close close E30", "OpenFile open E30", "ReadFile open E30", "MkdirAll mkdir E30", "RemoveAll remove E30",
		"Remove remove E30", "Rename rename E30", "Stat stat E30", "ReadDir readdir E30", "Lstat lstat E30", "Mkdir mkdir E30", "Walk of several")
}
