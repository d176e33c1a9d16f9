package crew_test

import (
	"math/rand"
	"sync"
	"testing"

	"bole/api"
	"bole/crew"
)

// P26.1: clients have the numbers 0, 1, 2, .. in the order in which they were asked for, whatever is called between, and of a closed server too.
func TestClientsNumbers(t *testing.T) {
	_, f := disk(t, 128)
	s := crew.New(f)
	var clients []*crew.Client
	for k := range 40 {
		clients = append(clients, s.Client())
		if k%3 == 0 {
			clients[k/2].Do(room())
		}
	}
	other := crew.New(f).Client()
	for k := len(clients) - 1; k >= 0; k-- {
		if got, e := clients[k].Do(room()); e != api.OK || got.Client != k {
			t.Errorf("P26.1: the client %d tells %+v, %d", k, got, e)
		}
	}
	if got, e := other.Do(room()); e != api.OK || got.Client != 0 || got.Index != 0 || got.Order != 0 {
		t.Errorf("P26.1: the first client of another server tells %+v, %d", got, e)
	}
	s.Close()
	for range 3 {
		got, e := s.Client().Do(room())
		closed(t, "a client of a closed server", got, e)
	}
}

// P26.1: of clients that are asked for at the same time no two have one number, and none is left out.
func TestClientsAtOnce(t *testing.T) {
	_, f := disk(t, 128)
	s := crew.New(f)
	clients := make([]*crew.Client, 200)
	var all sync.WaitGroup
	for i := range clients {
		all.Go(func() { clients[i] = s.Client() })
	}
	all.Wait()
	seen := make([]int, len(clients)+1)
	for _, c := range append(clients, s.Client()) {
		got, e := c.Do(room())
		if e != api.OK || got.Client < 0 || got.Client >= len(seen) {
			t.Fatalf("P26.1: %+v, %d", got, e)
		}
		seen[got.Client]++
	}
	for k, n := range seen {
		if n != 1 {
			t.Errorf("P26.1: %d clients have the number %d", n, k)
		}
	}
}

// P26.2: each call in turn, by clients that are drawn: the client, its next Index, the next Order, and what the file system answers, refused calls of it too.
func TestDoInTurn(t *testing.T) {
	r := rand.New(rand.NewSource(26))
	for _, p := range pairs(t, 160, mkdir("/d"), create("/a")) {
		for range 3 {
			s := crew.New(p.f)
			var clients []*crew.Client
			var next []int
			refused := 0
			for order := range 700 {
				if len(clients) == 0 || r.Intn(30) == 0 {
					clients, next = append(clients, s.Client()), append(next, 0)
				}
				k, c := r.Intn(len(clients)), drawnCall(r)
				want := api.Told{Client: k, Index: next[k], Order: order, Answer: p.twin.Do(c)}
				got, e := clients[k].Do(c)
				is(t, p.kind, got, e, want)
				next[k]++
				if want.Answer.Err != api.OK {
					refused++
				}
			}
			p.alike(t, "in turn")
			if refused < 100 || refused > 600 {
				t.Errorf("%d calls were refused", refused)
			}
		}
	}
}

// P26.2: a call that the file system refuses has an Index and an Order, whatever its error.
func TestRefusedCallsCount(t *testing.T) {
	wrong := []api.Call{{}, {Kind: -1}, {Kind: 16}, {Kind: 99}, create(""), create("a"), create("/" + rep("x", 28)), create("/none/x"), create("/a/x"), create("/a"), mkdir("/"), unlink("/d"), read("/d", 0, 1), read("/a", -1, 0), read("/a", 0, 16385), write("/a", api.MaxFile, "x"), write("/a", 0, rep("x", 16384)), readdir("/a"), readlink("/a")}
	for _, p := range pairs(t, 128, mkdir("/d"), create("/a")) {
		s := crew.New(p.f)
		a, b := s.Client(), s.Client()
		for i, c := range wrong {
			want := p.twin.Do(c)
			if want.Err == api.OK {
				t.Errorf("%s: %+v is not refused", p.kind, c)
			}
			got, e := a.Do(c)
			is(t, p.kind, got, e, api.Told{Client: 0, Index: i, Order: 2 * i, Answer: want})
			got, e = b.Do(c)
			is(t, p.kind, got, e, api.Told{Client: 1, Index: i, Order: 2*i + 1, Answer: want})
		}
		p.alike(t, "refused")
	}
}

// P26.2, W2: a call in which the power goes, and those behind it, are answered by the file system as all others are.
func TestPowerGoes(t *testing.T) {
	for at := 1; at <= 12; at++ {
		d, f := disk(t, 128)
		other, twin := disk(t, 128)
		d.Arm(api.Crash{At: at, Keep: []bool{true, false, true}})
		other.Arm(api.Crash{At: at, Keep: []bool{true, false, true}})
		s := crew.New(f)
		clients := []*crew.Client{s.Client(), s.Client()}
		down := 0
		for i, c := range []api.Call{create("/a"), write("/a", 0, "oak"), read("/a", 0, 9), room(), {Kind: 99}} {
			want := twin.Do(c)
			got, e := clients[i%2].Do(c)
			is(t, "the power goes", got, e, api.Told{Client: i % 2, Index: i / 2, Order: i, Answer: want})
			if got.Answer.Err == api.ErrDown {
				down++
			}
		}
		if down == 0 || string(d.Image()) != string(other.Image()) {
			t.Errorf("P26.5: the power gone at step %d: %d calls tell it", at, down)
		}
		s.Close()
		got, e := clients[0].Do(room())
		closed(t, "the power gone, and closed", got, e)
	}
}

// P26.1: two servers of two file systems, called by turns, know nothing of each other.
func TestTwoServers(t *testing.T) {
	for i, p := range pairs(t, 128) {
		q := pairs(t, 160, mkdir("/d"))[(i+1)%3]
		s, o := crew.New(p.f), crew.New(q.f)
		a, b, c := s.Client(), o.Client(), o.Client()
		for n := range 10 {
			x := create("/" + rep("x", n+1))
			got, e := a.Do(x)
			is(t, p.kind, got, e, api.Told{Client: 0, Index: n, Order: n, Answer: p.twin.Do(x)})
			got, e = b.Do(x)
			is(t, q.kind, got, e, api.Told{Client: 0, Index: n, Order: 2 * n, Answer: q.twin.Do(x)})
			got, e = c.Do(room())
			is(t, q.kind, got, e, api.Told{Client: 1, Index: n, Order: 2*n + 1, Answer: q.twin.Do(room())})
		}
		s.Close()
		got, e := a.Do(room())
		closed(t, "the first server", got, e)
		got, e = b.Do(room())
		is(t, "the second server", got, e, api.Told{Client: 0, Index: 10, Order: 20, Answer: q.twin.Do(room())})
		p.alike(t, "two servers")
		q.alike(t, "two servers")
	}
}

// P26.1: two servers of one file system, one behind the other, and by turns, with a crew between.
func TestTwoServersOfOne(t *testing.T) {
	for _, p := range pairs(t, 128) {
		one, two := crew.New(p.f), crew.New(p.f)
		a, b := one.Client(), two.Client()
		order, want := 0, 0
		do := func(c *crew.Client, x api.Call, at int) {
			t.Helper()
			got, e := c.Do(x)
			is(t, p.kind, got, e, api.Told{Client: 0, Index: at, Order: at, Answer: p.twin.Do(x)})
		}
		for _, name := range []string{"/a", "/b", "/c"} {
			do(a, create(name), order)
			do(a, write(name, 3, "oak"), order+1)
			order += 2
			do(b, create(name), want)
			do(b, read(name, 0, 9), want+1)
			want += 2
			scripts := [][]api.Call{{unlink(name), room()}, {readdir("/")}}
			inOrder(t, p.kind, p.twin, scripts, crew.Run(p.f, scripts))
		}
		one.Close()
		got, e := a.Do(room())
		closed(t, "the first", got, e)
		do(b, room(), want)
		s := crew.New(p.f)
		do(s.Client(), readdir("/"), 0)
		p.alike(t, "two servers of one")
	}
}

// P26.2, P26.5: many clients at the same time: the file system does one call at a time and each once, the Orders have no gap, and the answers are those of that order.
func TestManyAtOnce(t *testing.T) {
	r := rand.New(rand.NewSource(27))
	for range 6 {
		for _, p := range pairs(t, 256, mkdir("/d"), create("/a")) {
			scripts := drawnScripts(r, 2+r.Intn(12), 60)
			f := &noted{Caller: p.f}
			told := row(t, p.kind, crowd(t, crew.New(f), scripts))
			inOrder(t, p.kind, p.twin, scripts, told)
			f.once(t, p.kind, callsOf(scripts, told))
			p.alike(t, "at once")
		}
	}
}

// P26.2: clients that one behind the other call from other goroutines.
func TestHandedOn(t *testing.T) {
	p := tables(t, 128)
	s := crew.New(p.f)
	c := s.Client()
	for i := range 50 {
		done := make(chan struct{})
		go func() {
			defer close(done)
			got, e := c.Do(room())
			is(t, "handed on", got, e, api.Told{Client: 0, Index: i, Order: i, Answer: p.twin.Do(room())})
		}()
		<-done
	}
}
