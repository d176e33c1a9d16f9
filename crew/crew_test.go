package crew_test

import (
	"fmt"
	"runtime"
	"slices"
	"strings"
	"sync"
	"sync/atomic"
	"testing"

	"bole/adisk"
	"bole/api"
	"bole/crew"
	"bole/fds"
	"bole/ram"
	"bole/vfs"
)

func create(p string) api.Call   { return api.Call{Kind: api.CallCreate, Path: p} }
func mkdir(p string) api.Call    { return api.Call{Kind: api.CallMkdir, Path: p} }
func unlink(p string) api.Call   { return api.Call{Kind: api.CallUnlink, Path: p} }
func stat(p string) api.Call     { return api.Call{Kind: api.CallStat, Path: p} }
func lstat(p string) api.Call    { return api.Call{Kind: api.CallLstat, Path: p} }
func readdir(p string) api.Call  { return api.Call{Kind: api.CallReaddir, Path: p} }
func readlink(p string) api.Call { return api.Call{Kind: api.CallReadlink, Path: p} }
func room() api.Call             { return api.Call{Kind: api.CallRoom} }

func read(p string, off, size int) api.Call {
	return api.Call{Kind: api.CallRead, Path: p, Offset: off, Size: size}
}

func write(p string, off int, s string) api.Call {
	return api.Call{Kind: api.CallWrite, Path: p, Offset: off, Data: s}
}

// disk is a new disk that is a file system without a name, and that file system.
func disk(t *testing.T, blocks int) (*adisk.Disk, *vfs.FS) {
	t.Helper()
	d, e := adisk.New(blocks)
	if e != api.OK || vfs.Mkfs(d) != api.OK {
		t.Fatal("no disk")
	}
	f, e := vfs.Mount(d)
	if e != api.OK {
		t.Fatal(e)
	}
	return d, f
}

// pair is a file system and a second one that is alike; rest is what the calls of the two don't tell.
type pair struct {
	kind    string
	f, twin api.Caller
	rest    func() (string, string)
}

// pairs is a pair of each kind, behind these calls. Behind the table /held is open.
func pairs(t *testing.T, blocks int, before ...api.Call) []pair {
	t.Helper()
	m, e := ram.New(blocks)
	if e != api.OK {
		t.Fatal(e)
	}
	for _, c := range before {
		m.Do(c)
	}
	return []pair{
		{"ram", m, m.Copy(), func() (string, string) { return "", "" }},
		disks(t, blocks, before...),
		tables(t, blocks, before...),
	}
}

func disks(t *testing.T, blocks int, before ...api.Call) pair {
	t.Helper()
	d, f := disk(t, blocks)
	other, twin := disk(t, blocks)
	for _, c := range before {
		f.Do(c)
		twin.Do(c)
	}
	return pair{"vfs", f, twin, func() (string, string) { return string(d.Image()), string(other.Image()) }}
}

func tables(t *testing.T, blocks int, before ...api.Call) pair {
	t.Helper()
	p := disks(t, blocks)
	f, twin := fds.New(p.f.(*vfs.FS)), fds.New(p.twin.(*vfs.FS))
	for _, x := range []*fds.Table{f, twin} {
		if fd, e := x.Open("/held", api.ReadFlag|api.WriteFlag|api.CreateFlag); fd != 0 || e != api.OK {
			t.Fatal(fd, e)
		}
		for _, c := range before {
			x.Do(c)
		}
	}
	return pair{"fds", f, twin, func() (string, string) {
		s, other := p.rest()
		return s + held(f), other + held(twin)
	}}
}

// held is what a table tells of its open files; places stay at their beginning.
func held(f *fds.Table) string {
	what, e := f.Stat(0)
	text, wrong := f.Read(0, api.MaxIO)
	f.Seek(0, 0, api.FromStart)
	return fmt.Sprint(f.Numbers(), what, e, text, wrong)
}

// things is all that the calls of a file system tell of it.
func things(f api.Caller) []string {
	l := []string{fmt.Sprint(f.Do(room()))}
	var below func(p string)
	below = func(p string) {
		a := f.Do(lstat(p + "/."))
		if p != "" {
			a = f.Do(lstat(p))
		}
		l = append(l, fmt.Sprintf("%q %+v", p, a))
		switch a.Stat.Kind {
		case api.KindDir:
			for _, name := range f.Do(readdir(p + "/")).Names {
				below(p + "/" + name)
			}
		case api.KindLink:
			l = append(l, f.Do(readlink(p)).Data)
		case api.KindFile:
			for off := 0; off < a.Stat.Size; off += api.MaxIO {
				l = append(l, f.Do(read(p, off, api.MaxIO)).Data)
			}
		}
	}
	below("")
	return l
}

// alike holds that nothing parts the two of a pair.
func (p pair) alike(t *testing.T, what string) {
	t.Helper()
	if one, other := things(p.f), things(p.twin); !slices.Equal(one, other) {
		t.Errorf("P26.5: %s: %s: there stands %q, want %q", what, p.kind, one, other)
	}
	if one, other := p.rest(); one != other {
		t.Errorf("P26.5: %s: %s: what stands beside the tree is other than where the calls were done one behind the other", what, p.kind)
	}
}

func same(a, b api.Answer) bool {
	names := slices.Equal(a.Names, b.Names)
	a.Names, b.Names = nil, nil
	return names && fmt.Sprintf("%+v", a) == fmt.Sprintf("%+v", b)
}

// is holds what was told of a call.
func is(t *testing.T, what string, got api.Told, e api.Errno, want api.Told) {
	t.Helper()
	if e != api.OK || got.Client != want.Client || got.Index != want.Index || got.Order != want.Order || !same(got.Answer, want.Answer) {
		t.Errorf("P26.2: %s: %+v, %d, want %+v", what, got, e, want)
	}
}

// closed holds that a call was refused by a closed server.
func closed(t *testing.T, what string, got api.Told, e api.Errno) {
	t.Helper()
	if a := got.Answer; e != api.ErrClosed || got.Client != 0 || got.Index != 0 || got.Order != 0 || a.Names != nil || !same(a, api.Answer{}) {
		t.Errorf("P26.2: %s: %+v, %d, want the zero Told and ErrClosed", what, got, e)
	}
}

// inOrder holds that a list tells of the scripts' calls, each once, in one order that keeps each client's own, and that a file system which does them one behind the other answers the same.
func inOrder(t *testing.T, what string, twin api.Caller, scripts [][]api.Call, told []api.Told) {
	t.Helper()
	want, next := 0, make([]int, len(scripts))
	for _, script := range scripts {
		want += len(script)
	}
	if len(told) != want {
		t.Errorf("P26.4: %s: %d are told, want %d", what, len(told), want)
		return
	}
	for i, x := range told {
		if x.Client < 0 || x.Client >= len(scripts) || x.Order != i || x.Index != next[x.Client] || x.Index >= len(scripts[x.Client]) {
			t.Errorf("P26.5: %s: at %d stands %+v", what, i, x)
			return
		}
		next[x.Client]++
		c := scripts[x.Client][x.Index]
		if a := twin.Do(c); !same(x.Answer, a) {
			t.Errorf("P26.5: %s: %d: %+v: %+v, want %+v", what, i, c, x.Answer, a)
			return
		}
	}
}

// row brings what several clients were told into the one order, without gaps.
func row(t *testing.T, what string, told [][]api.Told) []api.Told {
	t.Helper()
	all := slices.Concat(told...)
	slices.SortStableFunc(all, func(x, y api.Told) int { return x.Order - y.Order })
	for i, x := range all {
		if x.Order != i {
			t.Errorf("P26.2: %s: the Order %d stands at %d of %d", what, x.Order, i, len(all))
		}
	}
	return all
}

// noted is a file system that notes what it is asked. Its list has no lock, so that the race detector sees calls at the same time too.
type noted struct {
	api.Caller
	busy  atomic.Int32
	twice atomic.Int32
	asked []api.Call
}

func (n *noted) Do(c api.Call) api.Answer {
	if n.busy.Add(1) > 1 {
		n.twice.Add(1)
	}
	n.asked = append(n.asked, c)
	runtime.Gosched()
	a := n.Caller.Do(c)
	runtime.Gosched()
	n.busy.Add(-1)
	return a
}

// once holds that a file system was asked these calls alone, each once, and no two at the same time.
func (n *noted) once(t *testing.T, what string, calls []api.Call) {
	t.Helper()
	if twice := n.twice.Load(); twice > 0 {
		t.Errorf("P26.2: %s: %d calls were carried out beside another one", what, twice)
	}
	if !slices.Equal(n.asked, calls) {
		t.Errorf("P26.2: %s: the file system was asked %d calls, want %d: %+v, want %+v", what, len(n.asked), len(calls), n.asked, calls)
	}
}

// callsOf is the scripts' calls in the order that was told.
func callsOf(scripts [][]api.Call, told []api.Told) []api.Call {
	var l []api.Call
	for _, x := range told {
		l = append(l, scripts[x.Client][x.Index])
	}
	return l
}

// crowd lets as many new clients as there are scripts do their calls, all at the same time: what each was told, by the clients' numbers, up to its first call that was refused.
func crowd(t *testing.T, s *crew.Server, scripts [][]api.Call) [][]api.Told {
	told := make([][]api.Told, len(scripts))
	var clients sync.WaitGroup
	for k, script := range scripts {
		c := s.Client()
		clients.Go(func() {
			over := false
			for _, x := range script {
				one, e := c.Do(x)
				if over = over || e != api.OK; over {
					closed(t, "behind Close", one, e)
					continue
				}
				told[k] = append(told[k], one)
			}
		})
	}
	clients.Wait()
	return told
}

func rep(s string, n int) string { return strings.Repeat(s, n) }
