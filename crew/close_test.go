package crew_test

import (
	"slices"
	"sync"
	"testing"
	"testing/synctest"

	"bole/api"
	"bole/crew"
)

// gated is a file system whose calls stand still till the gate lets one through. It notes which have begun.
type gated struct {
	api.Caller
	gate  chan struct{}
	begun []api.Call
}

func (g *gated) Do(c api.Call) api.Answer {
	g.begun = append(g.begun, c)
	<-g.gate
	return g.Caller.Do(c)
}

// answer is what a call of a client answered.
type answer struct {
	told api.Told
	e    api.Errno
}

// later begins a call; the answer comes on the channel.
func later(c *crew.Client, x api.Call) <-chan answer {
	l := make(chan answer, 1)
	go func() {
		told, e := c.Do(x)
		l <- answer{told, e}
	}()
	return l
}

// P26.3: a server that is closed ahead of any call, once or more, asks the file system nothing.
func TestCloseAhead(t *testing.T) {
	for times := 1; times < 4; times++ {
		for _, p := range pairs(t, 128) {
			f := &noted{Caller: p.f}
			s := crew.New(f)
			clients := []*crew.Client{s.Client()}
			for range times {
				s.Close()
				clients = append(clients, s.Client())
			}
			for range 3 {
				for _, c := range clients {
					for _, x := range []api.Call{create("/a"), room(), {}, {Kind: 99}} {
						got, e := c.Do(x)
						closed(t, p.kind, got, e)
					}
				}
			}
			f.once(t, p.kind, nil)
			p.alike(t, "closed ahead")
		}
	}
}

// P26.3, P26.2: behind Close no call is carried out; those ahead of it stay as they were.
func TestCloseBehind(t *testing.T) {
	for _, p := range pairs(t, 128) {
		f := &noted{Caller: p.f}
		s := crew.New(f)
		a, b := s.Client(), s.Client()
		calls := []api.Call{create("/a"), write("/a", 0, "oak"), read("/a", 0, 9)}
		for i, x := range calls {
			got, e := a.Do(x)
			is(t, p.kind, got, e, api.Told{Client: 0, Index: i, Order: i, Answer: p.twin.Do(x)})
		}
		for range 3 {
			s.Close()
			for _, c := range []*crew.Client{a, b, s.Client()} {
				got, e := c.Do(unlink("/a"))
				closed(t, p.kind, got, e)
			}
		}
		f.once(t, p.kind, calls)
		p.alike(t, "closed behind")
	}
}

// P26.3: in the midst of a call Close ends, so does Client; the call ends as it would, with its answer; all others are refused, those that wait too, and none of them is carried out.
func TestCloseInTheMidst(t *testing.T) {
	for ahead := range 3 {
		synctest.Test(t, func(t *testing.T) {
			p := disks(t, 128)
			f := &gated{Caller: p.f, gate: make(chan struct{}, ahead)}
			s := crew.New(f)
			a, b, c := s.Client(), s.Client(), s.Client()
			for i := range ahead {
				f.gate <- struct{}{}
				got, e := b.Do(room())
				is(t, "ahead", got, e, api.Told{Client: 1, Index: i, Order: i, Answer: p.twin.Do(room())})
			}
			midst := later(a, create("/a"))
			synctest.Wait()
			waiting := []<-chan answer{later(b, create("/b")), later(c, create("/c"))}
			synctest.Wait()
			waiting = append(waiting, later(s.Client(), create("/d")))
			synctest.Wait()
			s.Close()
			for range 2 {
				for _, x := range []*crew.Client{b, c, s.Client()}[ahead:] {
					waiting = append(waiting, later(x, create("/e")))
				}
				s.Close()
				synctest.Wait()
			}
			for _, l := range waiting {
				got := <-l
				closed(t, "waits", got.told, got.e)
			}
			select {
			case got := <-midst:
				t.Errorf("P26.3: the call has ended ahead of its answer: %+v", got)
			default:
			}
			close(f.gate)
			got := <-midst
			is(t, "in the midst", got.told, got.e, api.Told{Client: 0, Index: 0, Order: ahead, Answer: p.twin.Do(create("/a"))})
			for _, x := range []*crew.Client{a, b, c, s.Client()} {
				got, e := x.Do(create("/f"))
				closed(t, "behind", got, e)
			}
			if want := append(slices.Repeat([]api.Call{room()}, ahead), create("/a")); !slices.Equal(f.begun, want) {
				t.Errorf("P26.3: the file system was asked %+v, want %+v", f.begun, want)
			}
			p.alike(t, "closed in the midst")
		})
	}
}

// closing is a file system in whose second call a server is closed.
type closing struct {
	api.Caller
	close func()
	calls int
}

func (f *closing) Do(c api.Call) api.Answer {
	if f.calls++; f.calls == 2 {
		f.close()
	}
	return f.Caller.Do(c)
}

// P26.3: a call inside of which the server is closed is told as ever.
func TestCloseInside(t *testing.T) {
	for _, p := range pairs(t, 128) {
		f := &closing{Caller: p.f}
		s := crew.New(f)
		f.close = s.Close
		a, b := s.Client(), s.Client()
		got, e := a.Do(create("/a"))
		is(t, p.kind, got, e, api.Told{Client: 0, Index: 0, Order: 0, Answer: p.twin.Do(create("/a"))})
		got, e = b.Do(create("/b"))
		is(t, p.kind, got, e, api.Told{Client: 1, Index: 0, Order: 1, Answer: p.twin.Do(create("/b"))})
		for _, c := range []*crew.Client{a, b, s.Client()} {
			got, e := c.Do(create("/c"))
			closed(t, p.kind, got, e)
		}
		if f.calls != 2 {
			t.Errorf("P26.3: %s: %d calls were carried out, want 2", p.kind, f.calls)
		}
		p.alike(t, "closed inside")
	}
}

// P26.2: a call that waits is carried out when its turn comes, if nobody closes the server; those that wait each have their turn.
func TestWaiting(t *testing.T) {
	synctest.Test(t, func(t *testing.T) {
		p := disks(t, 128)
		f := &gated{Caller: p.f, gate: make(chan struct{})}
		s := crew.New(f)
		var l []<-chan answer
		for i := range 9 {
			l = append(l, later(s.Client(), create("/"+rep("x", i+1))))
		}
		for n := range l {
			synctest.Wait()
			if len(f.begun) != n+1 {
				t.Fatalf("P26.2: %d calls have begun where %d have ended", len(f.begun), n)
			}
			f.gate <- struct{}{}
		}
		told := make([][]api.Told, len(l))
		scripts := make([][]api.Call, len(l))
		for k := range l {
			got := <-l[k]
			if got.e != api.OK || got.told.Client != k {
				t.Fatalf("P26.2: of the client %d: %+v", k, got)
			}
			told[k], scripts[k] = []api.Told{got.told}, []api.Call{create("/" + rep("x", k+1))}
		}
		inOrder(t, "waiting", p.twin, scripts, row(t, "waiting", told))
	})
}

// P26.3: Close by many at the same time.
func TestCloseAtOnce(t *testing.T) {
	for range 100 {
		_, f := disk(t, 128)
		s := crew.New(f)
		c := s.Client()
		var all sync.WaitGroup
		for range 8 {
			all.Go(func() {
				s.Close()
				got, e := s.Client().Do(room())
				closed(t, "behind one of many", got, e)
			})
		}
		all.Wait()
		got, e := c.Do(room())
		closed(t, "behind all", got, e)
	}
}
