package crew_test

import (
	"slices"
	"strings"
	"testing"
	"unsafe"

	"bole/api"
	"bole/crew"
)

// again is a file system that hands out the same list each time, and writes over it in each call; its text is the one that it was handed.
type again struct {
	names []string
	calls int
}

func (f *again) Do(c api.Call) api.Answer {
	f.calls++
	f.write(strings.Repeat("n", f.calls))
	return api.Answer{Names: f.names[:2], Data: c.Data, N: f.calls}
}

// write writes over the list and the room behind it.
func (f *again) write(s string) {
	for i := range f.names {
		f.names[i] = s
	}
}

// wrote holds that an answer is still the one to the how many-th call.
func wrote(t *testing.T, what string, x api.Told, n int) {
	t.Helper()
	name := strings.Repeat("n", n)
	if a := x.Answer; a.N != n || !slices.Equal(a.Names, []string{name, name}) {
		t.Errorf("P26.6: %s: the answer to the call %d is %+v", what, n, x)
	}
}

// over writes over an answer's list, and the room behind it.
func over(x api.Told, s string) {
	l := x.Answer.Names[:cap(x.Answer.Names)]
	for i := range l {
		l[i] = s
	}
}

// P26.6: the Names of an answer are new memory, also where the file system hands out the same memory again; neither the file system's list nor another answer's changes with them.
func TestNamesAreNew(t *testing.T) {
	f := &again{names: make([]string, 5)}
	s := crew.New(f)
	clients := []*crew.Client{s.Client(), s.Client()}
	var told []api.Told
	for i := range 6 {
		x, e := clients[i%2].Do(readdir("/"))
		if e != api.OK {
			t.Fatal(e)
		}
		told = append(told, x)
		for n, x := range told {
			wrote(t, "Do", x, n+1)
		}
	}
	f.write("the file system's")
	for n, x := range told {
		wrote(t, "Do", x, n+1)
		over(x, "written over")
		for m := n + 1; m < len(told); m++ {
			wrote(t, "Do", told[m], m+1)
		}
	}
	for _, name := range f.names {
		if name != "the file system's" {
			t.Errorf("P26.6: the file system's list is %q", f.names)
		}
	}
}

// P26.6: of Run likewise.
func TestNamesOfRunAreNew(t *testing.T) {
	f := &again{names: make([]string, 5)}
	told := crew.Run(f, slices.Repeat([][]api.Call{{readdir("/"), readdir("/"), room()}}, 5))
	f.write("the file system's")
	for n, x := range told {
		wrote(t, "Run", x, n+1)
		over(x, "written over")
		for m := n + 1; m < len(told); m++ {
			wrote(t, "Run", told[m], m+1)
		}
	}
	for _, name := range f.names {
		if name != "the file system's" {
			t.Errorf("P26.6: the file system's list is %q", f.names)
		}
	}
}

// P26.6: the Names of clients that call at the same time too: they are copied ahead of the next call.
func TestNamesAreNewAtOnce(t *testing.T) {
	for range 20 {
		f := &again{names: make([]string, 5)}
		scripts := slices.Repeat([][]api.Call{slices.Repeat([]api.Call{readdir("/")}, 100)}, 6)
		for n, x := range row(t, "at once", crowd(t, crew.New(f), scripts)) {
			wrote(t, "at once", x, n+1)
		}
		f = &again{names: make([]string, 5)}
		for n, x := range crew.Run(f, scripts) {
			wrote(t, "Run", x, n+1)
		}
	}
}

// shares tells whether two texts have memory in common.
func shares(a, b string) bool {
	x, y := uintptr(unsafe.Pointer(unsafe.StringData(a))), uintptr(unsafe.Pointer(unsafe.StringData(b)))
	return x < y+uintptr(len(b)) && y < x+uintptr(len(a))
}

// P26.6: the texts of an answer are new memory too.
func TestTextsAreNew(t *testing.T) {
	f := &again{names: make([]string, 2)}
	c := crew.New(f).Client()
	x := write("/a", 0, strings.Clone("a text that is handed in"))
	one, _ := c.Do(x)
	two, _ := c.Do(x)
	three := crew.Run(f, [][]api.Call{{x}})[0]
	for i, s := range []string{one.Answer.Data, two.Answer.Data, three.Answer.Data} {
		if s != x.Data || shares(s, x.Data) {
			t.Errorf("P26.6: the text that was answered is %q, in memory that was handed in", s)
		}
		if i > 0 && shares(s, one.Answer.Data) {
			t.Errorf("P26.6: two answers have a text in the same memory")
		}
	}
	if l := three.Answer.Names; shares(l[0], l[1]) || shares(l[0], f.names[0]) {
		t.Errorf("P26.6: names that were answered lie in the same memory, or in the file system's")
	}
}

// P26.6, W4: an answer without names has none, and so has one with an empty list.
func TestNoNames(t *testing.T) {
	for _, p := range pairs(t, 128, mkdir("/d")) {
		c := crew.New(p.f).Client()
		for _, x := range []api.Call{readdir("/d"), room(), create("/"), {}} {
			if got, e := c.Do(x); e != api.OK || len(got.Answer.Names) != 0 {
				t.Errorf("P26.6: %s: %+v, %d", p.kind, got, e)
			}
		}
	}
}

// roomy is scripts with room behind them and behind the list of them, and all that lies there too.
func roomy() (scripts, whole [][]api.Call) {
	for k := range 6 {
		script := make([]api.Call, 0, 8)
		for i := range cap(script) {
			script = append(script, []api.Call{create("/" + rep("x", k+1)), write("/"+rep("x", k+1), i, "oak"), readdir("/"), {Kind: 99}}[i%4])
		}
		whole = append(whole, script[:5:8])
	}
	return whole[:4], whole
}

// written is a copy of all that lies in scripts and in the room behind them.
func written(whole [][]api.Call) [][]api.Call {
	var l [][]api.Call
	for _, script := range whole {
		l = append(l, slices.Clone(script[:cap(script)]))
	}
	return l
}

// P26.6, W3: scripts and their calls are neither changed nor kept: what was told and what is answered later stays when they are written over.
func TestScriptsStay(t *testing.T) {
	for _, p := range pairs(t, 128) {
		scripts, whole := roomy()
		was := written(whole)
		f := &noted{Caller: p.f}
		told := crew.Run(f, scripts)
		if len(scripts) != 4 || len(whole) != 6 || !slices.EqualFunc(written(whole), was, slices.Equal) {
			t.Errorf("P26.6: %s: Run has changed what was handed in", p.kind)
		}
		asked := callsOf(was, told)
		for _, script := range whole {
			clear(script[:cap(script)])
		}
		clear(whole)
		for k := range was {
			was[k] = was[k][:5]
		}
		inOrder(t, p.kind, p.twin, was[:4], told)
		f.once(t, p.kind, asked)
		other := [][]api.Call{{readdir("/")}, {room()}}
		inOrder(t, p.kind, p.twin, other, crew.Run(f, other))
		p.alike(t, "written over")
	}
}

// P26.6, W3: no two lists of Run are one, nor do they hang on what becomes of an earlier one.
func TestToldIsNew(t *testing.T) {
	p := pairs(t, 128)[0]
	scripts := [][]api.Call{{room(), readdir("/")}, {room()}}
	first := crew.Run(p.f, scripts)
	second := crew.Run(p.f, scripts)
	want := slices.Clone(second)
	for i := range first[:cap(first)] {
		first[:cap(first)][i] = api.Told{Client: 7}
	}
	for i := range second {
		is(t, "Run again", second[i], api.OK, want[i])
	}
}
