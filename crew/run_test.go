package crew_test

import (
	"runtime"
	"slices"
	"sync"
	"testing"
	"testing/synctest"

	"bole/api"
	"bole/crew"
	"bole/ram"
)

// P26.4: one script: its calls in their order, and nothing else.
func TestRunOne(t *testing.T) {
	script := []api.Call{mkdir("/d"), create("/d/a"), write("/d/a", 5, "oak"), {Kind: 99}, read("/d/a", 0, 100), create("/d/a"), stat("/d/a"), readdir("/d"), room(), unlink("/d/a"), read("/d/a", 0, 1)}
	for n := range len(script) + 1 {
		for _, p := range pairs(t, 128) {
			told := crew.Run(p.f, [][]api.Call{script[:n]})
			if len(told) != n {
				t.Fatalf("P26.4: %s: of %d calls are told %d", p.kind, n, len(told))
			}
			for i, x := range told {
				is(t, p.kind, x, api.OK, api.Told{Client: 0, Index: i, Order: i, Answer: p.twin.Do(script[i])})
			}
			p.alike(t, "one script")
		}
	}
}

// P26.4: a client's number is its script's, also where others are empty.
func TestRunSomeEmpty(t *testing.T) {
	for at := range 7 {
		for _, p := range pairs(t, 128) {
			scripts := make([][]api.Call, 7)
			scripts[at] = []api.Call{create("/a"), room()}
			scripts[(at+3)%7] = []api.Call{}
			told := crew.Run(p.f, scripts)
			inOrder(t, p.kind, p.twin, scripts, told)
			for i, x := range told {
				if x.Client != at || x.Index != i {
					t.Errorf("P26.4: %s: %+v at %d, want the client %d", p.kind, x, i, at)
				}
			}
		}
	}
}

// P26.4: many clients, and many calls of each.
func TestRunMany(t *testing.T) {
	for _, shape := range [][2]int{{1, 4000}, {2, 2000}, {100, 40}, {4000, 1}} {
		for _, p := range pairs(t, 128) {
			scripts := make([][]api.Call, shape[0])
			for k := range scripts {
				for i := range shape[1] {
					scripts[k] = append(scripts[k], []api.Call{create("/a"), unlink("/a"), stat("/a")}[(k+i)%3])
				}
			}
			f := &noted{Caller: p.f}
			told := crew.Run(f, scripts)
			inOrder(t, p.kind, p.twin, scripts, told)
			f.once(t, p.kind, callsOf(scripts, told))
			p.alike(t, "many")
		}
	}
}

// still is a file system that does a call when all others of its test stand still: they wait for it, or have ended.
type still struct {
	api.Caller
	calls int
}

func (f *still) Do(c api.Call) api.Answer {
	f.calls++
	synctest.Wait()
	return f.Caller.Do(c)
}

// P26.4: all clients do their calls at the same time, and not one behind the other.
func TestRunIsAtTheSameTime(t *testing.T) {
	synctest.Test(t, func(t *testing.T) {
		p := disks(t, 128)
		scripts := slices.Repeat([][]api.Call{{room(), create("/a"), room(), unlink("/a")}}, 6)
		told := crew.Run(&still{Caller: p.f}, scripts)
		inOrder(t, "at the same time", p.twin, scripts, told)
		turns := 1
		for i := range len(told) - 1 {
			if told[i].Client != told[i+1].Client {
				turns++
			}
		}
		if turns <= len(scripts) {
			t.Errorf("P26.4: of %d clients each did its calls alone", len(scripts))
		}
	})
}

// P26.4: behind Run nothing goes on: no goroutine is left (the test would not end), and the file system is asked nothing more.
func TestNothingGoesOn(t *testing.T) {
	for _, scripts := range [][][]api.Call{nil, {nil, nil}, {{room()}}, {{room(), room()}, nil, {create("/a")}}, slices.Repeat([][]api.Call{{room(), create("/a"), unlink("/a")}}, 50)} {
		synctest.Test(t, func(t *testing.T) {
			p := disks(t, 128)
			f := &still{Caller: p.f}
			told := crew.Run(f, scripts)
			asked := f.calls
			synctest.Wait()
			if f.calls != asked || asked != len(told) {
				t.Errorf("P26.4: of %d calls that are told the file system was asked %d by then, and now %d", len(told), asked, f.calls)
			}
			inOrder(t, "nothing goes on", p.twin, scripts, told)
		})
	}
}

// P26.4: many crews leave no goroutine behind them.
func TestNoGoroutineIsLeft(t *testing.T) {
	before := runtime.NumGoroutine()
	for range 200 {
		p := pairs(t, 128)[0]
		crew.Run(p.f, [][]api.Call{{room(), room()}, nil, {create("/a")}})
		s := crew.New(p.f)
		s.Client().Do(room())
		s.Close()
		s.Client().Do(room())
		crew.New(p.f).Client().Do(room())
	}
	for range 1000000 { // those that are about to end have time to
		if runtime.NumGoroutine() <= before {
			return
		}
		runtime.Gosched()
	}
	t.Errorf("P26.4: there were %d goroutines, and now there are %d", before, runtime.NumGoroutine())
}

// P26.5: the answers are those of the file system as it was ahead of the first call.
func TestRunOnWhatStands(t *testing.T) {
	before := []api.Call{mkdir("/d"), create("/d/a"), write("/d/a", 100, rep("oak", 300)), {Kind: api.CallSymlink, Path: "/l", Other: "d/a"}, {Kind: api.CallLink, Path: "/d/a", Other: "/b"}}
	for _, p := range pairs(t, 128, before...) {
		for range 5 {
			scripts := [][]api.Call{{read("/l", 90, 30), write("/b", 95, "x"), room()}, {read("/l", 90, 30), unlink("/d/a"), create("/d/a"), stat("/b")}, {readdir("/d"), {Kind: api.CallRename, Path: "/b", Other: "/d/a"}, readdir("/")}}
			inOrder(t, p.kind, p.twin, scripts, crew.Run(p.f, scripts))
			p.alike(t, "on what stands")
			for _, c := range before {
				p.f.Do(c)
				p.twin.Do(c)
			}
		}
	}
}

// P26.5: where the room doesn't do for all, who gets it is told by the one order.
func TestRunWithoutRoom(t *testing.T) {
	for range 10 {
		for _, p := range pairs(t, 128, create("/a")) {
			scripts := [][]api.Call{{write("/a", 0, rep("x", 9000)), write("/a", 9000, rep("y", 9000)), room()}}
			for k := range 4 {
				var l []api.Call
				for i := range 4 {
					l = append(l, create("/"+rep("x", 4*k+i+1)), write("/"+rep("x", 4*k+i+1), 0, "oak"))
				}
				scripts = append(scripts, l)
			}
			told := crew.Run(p.f, scripts)
			inOrder(t, p.kind, p.twin, scripts, told)
			p.alike(t, "without room")
			if !slices.ContainsFunc(told, func(x api.Told) bool { return x.Answer.Err == api.ErrSpace }) {
				t.Errorf("%s: there was room for all", p.kind)
			}
		}
	}
}

// P0.7: two clients that each read what both write: some one order of all calls that keeps each one's own tells what both have read.
func TestOneOrderTellsAll(t *testing.T) {
	for range 100 {
		p := pairs(t, 128, create("/a"))[0]
		scripts := [][]api.Call{{write("/a", 0, "1"), read("/a", 0, 2), read("/a", 0, 2)}, {write("/a", 1, "2"), read("/a", 0, 2), read("/a", 0, 2)}}
		told := crew.Run(p.f, scripts)
		last := ""
		for _, x := range told {
			if s := x.Answer.Data; x.Index > 0 && len(s) < len(last) {
				t.Errorf("P0.7: the call %d of client %d reads %q, one ahead of it read %q", x.Index, x.Client, s, last)
			}
			if x.Index > 0 {
				last = x.Answer.Data
			}
		}
		inOrder(t, "one order", p.twin, scripts, told)
	}
}

// P26.1, P26.4: crews and servers of several file systems at the same time.
func TestCrewsAtOnce(t *testing.T) {
	var all sync.WaitGroup
	for range 4 {
		for _, p := range pairs(t, 128) {
			scripts := [][]api.Call{{create("/a"), room(), unlink("/a")}, nil, {create("/a"), write("/a", 0, "oak"), readdir("/")}, {mkdir("/d"), room()}}
			all.Go(func() {
				for range 20 {
					inOrder(t, p.kind, p.twin, scripts, crew.Run(p.f, scripts))
					inOrder(t, p.kind, p.twin, scripts, row(t, p.kind, crowd(t, crew.New(p.f), scripts)))
				}
				p.alike(t, "crews at once")
			})
		}
	}
	all.Wait()
}

// P26.4: a great crew on the greatest file system.
func TestGreatCrew(t *testing.T) {
	f, e := ram.New(api.MaxDisk)
	if e != api.OK {
		t.Fatal(e)
	}
	twin := f.Copy()
	scripts := slices.Repeat([][]api.Call{{readdir("/"), lstat("/a")}}, 50000)
	inOrder(t, "a great crew", twin, scripts, crew.Run(f, scripts))
}
