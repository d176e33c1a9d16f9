package crew_test

import (
	"math/rand"
	"runtime"
	"sync"
	"sync/atomic"
	"testing"

	"bole/api"
	"bole/crew"
)

// drawnPath is one of a few paths, so that clients meet.
func drawnPath(r *rand.Rand) string {
	if r.Intn(12) == 0 {
		return []string{"/", "/none/x", "/a/x", "", "x", "../a", "/d/..", "d"}[r.Intn(8)]
	}
	return []string{"/a", "/b", "/c", "/d", "/d/a", "/d/b", "/d/e", "/d/e/a", "/held", "/l", "/d/l"}[r.Intn(11)]
}

// drawnCall is any call, mostly of a Kind that there is.
func drawnCall(r *rand.Rand) api.Call {
	c := api.Call{Kind: 1 + r.Intn(15), Path: drawnPath(r), Other: drawnPath(r), Offset: r.Intn(3000), Size: r.Intn(3000), Data: rep("xyz", r.Intn(400))}
	switch r.Intn(20) {
	case 0:
		c.Kind = []int{-1, 0, 16, 99, -1 << 63}[r.Intn(5)]
	case 1:
		c.Offset = []int{-1, api.MaxFile, 1<<63 - 1, 1 << 40}[r.Intn(4)]
	case 2:
		c.Size = []int{-1, api.MaxIO, api.MaxIO + 1, 1<<63 - 1}[r.Intn(4)]
	case 3:
		c.Path = rep("/x", 30+r.Intn(4))
	case 4, 5, 6, 7:
		c.Data = rep("xyz", 2000+r.Intn(3000))
	case 8:
		c.Offset = 512 * r.Intn(400)
	}
	if c.Kind == api.CallTruncate && c.Size > api.MaxIO {
		c.Size = -1
	}
	return c
}

// drawnScripts is scripts of any calls, at most so many each, some without one.
func drawnScripts(r *rand.Rand, clients, most int) [][]api.Call {
	scripts := make([][]api.Call, clients)
	for k := range scripts {
		if r.Intn(5) == 0 {
			continue
		}
		for range r.Intn(most + 1) {
			scripts[k] = append(scripts[k], drawnCall(r))
		}
	}
	return scripts
}

// P26.1 to P26.5: any clients and calls at the same time, with Close at any time, by one or more, on servers of every kind of file system: every call ends; those that were carried out are told in one order, and all others are refused and were not asked.
func TestDrawnCrowds(t *testing.T) {
	r := rand.New(rand.NewSource(28))
	refused, carried := 0, 0
	for range 120 {
		for _, p := range pairs(t, 160, mkdir("/d"), create("/a")) {
			scripts := drawnScripts(r, 1+r.Intn(8), 30)
			f := &noted{Caller: p.f}
			s := crew.New(f)
			wait := r.Intn(400)
			var closers sync.WaitGroup
			for range r.Intn(4) {
				closers.Go(func() {
					for range wait {
						runtime.Gosched()
					}
					s.Close()
				})
			}
			told := crowd(t, s, scripts)
			closers.Wait()
			all := row(t, p.kind, told)
			for k := range scripts {
				refused += len(scripts[k]) - len(told[k])
				scripts[k] = scripts[k][:len(told[k])]
			}
			carried += len(all)
			inOrder(t, p.kind, p.twin, scripts, all)
			f.once(t, p.kind, callsOf(scripts, all))
			p.alike(t, "drawn")
		}
	}
	if refused < 300 || carried < 300 {
		t.Errorf("%d calls were carried out, %d refused", carried, refused)
	}
}

// P26.3: of calls that begin behind a Close that has ended none is carried out, however many are on their way.
func TestBehindClose(t *testing.T) {
	for range 300 {
		_, f := disk(t, 128)
		s := crew.New(f)
		var over atomic.Bool
		var clients sync.WaitGroup
		for range 6 {
			c := s.Client()
			clients.Go(func() {
				for range 30 {
					was := over.Load()
					got, e := c.Do(room())
					if was || e != api.OK {
						closed(t, "behind Close", got, e)
					}
				}
			})
		}
		clients.Go(func() {
			runtime.Gosched()
			s.Close()
			over.Store(true)
		})
		clients.Wait()
	}
}

// P26.4, P26.5: any scripts, over all kinds of file systems, with room and without.
func TestDrawnRuns(t *testing.T) {
	r := rand.New(rand.NewSource(29))
	errors := map[api.Errno]int{}
	for range 80 {
		for _, p := range pairs(t, 128+32*r.Intn(3), mkdir("/d"), create("/a")) {
			for range 2 { // the second on what the first has left
				scripts := drawnScripts(r, r.Intn(10), 40)
				f := &noted{Caller: p.f}
				told := crew.Run(f, scripts)
				inOrder(t, p.kind, p.twin, scripts, told)
				f.once(t, p.kind, callsOf(scripts, told))
				p.alike(t, "drawn")
				for _, x := range told {
					errors[x.Answer.Err]++
				}
			}
		}
	}
	for _, e := range []api.Errno{api.OK, api.ErrInval, api.ErrExist, api.ErrNone, api.ErrNotDir, api.ErrIsDir} {
		if errors[e] < 100 {
			t.Errorf("the answers' errors are %v", errors)
		}
	}
}

// P26.5: a crew on a disk whose power goes at any step: the calls behind it are answered too, and what lasts is what lasts where they were done one behind the other.
func TestRunAndPowerGoes(t *testing.T) {
	r := rand.New(rand.NewSource(30))
	down := 0
	for at := range 150 {
		d, f := disk(t, 128)
		other, twin := disk(t, 128)
		keep := []bool{r.Intn(2) == 0, r.Intn(2) == 0, r.Intn(2) == 0, r.Intn(2) == 0}
		d.Arm(api.Crash{At: at, Keep: keep})
		other.Arm(api.Crash{At: at, Keep: keep})
		scripts := drawnScripts(r, 4, 20)
		told := crew.Run(f, scripts)
		inOrder(t, "the power goes", twin, scripts, told)
		for _, x := range told {
			if x.Answer.Err == api.ErrDown {
				down++
			}
		}
		if string(d.Image()) != string(other.Image()) {
			t.Errorf("P26.5: the power gone at step %d: other bytes last", at)
		}
	}
	if down < 100 {
		t.Errorf("%d calls tell that the power is out", down)
	}
}
