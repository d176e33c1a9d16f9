package crew_test

import (
	"testing"

	"bole/api"
	"bole/crew"
)

// Example 1 of the chapter.
func TestExampleServer(t *testing.T) {
	for _, p := range pairs(t, 128) {
		if p.kind == "fds" { // its file that is open has inode 2
			continue
		}
		s := crew.New(p.f)
		a, b := s.Client(), s.Client()
		got, e := a.Do(create("/x"))
		is(t, p.kind, got, e, api.Told{Client: 0, Index: 0, Order: 0, Answer: api.Answer{N: 2}})
		got, e = b.Do(create("/x"))
		is(t, p.kind, got, e, api.Told{Client: 1, Index: 0, Order: 1, Answer: api.Answer{Err: api.ErrExist}})
		got, e = b.Do(stat("/x"))
		is(t, p.kind, got, e, api.Told{Client: 1, Index: 1, Order: 2, Answer: api.Answer{Stat: api.Stat{Inode: 2, Kind: 1, Links: 1}}})
		got, e = a.Do(api.Call{Kind: 99})
		is(t, p.kind, got, e, api.Told{Client: 0, Index: 1, Order: 3, Answer: api.Answer{Err: api.ErrInval}})
		for range 2 {
			s.Close()
			for _, c := range []*crew.Client{a, b, s.Client()} {
				got, e := c.Do(create("/y"))
				closed(t, p.kind, got, e)
			}
		}
	}
}

// Example 2 of the chapter.
func TestExampleRun(t *testing.T) {
	for range 50 {
		for _, p := range pairs(t, 128) {
			scripts := [][]api.Call{{create("/a"), create("/b")}, {create("/a")}}
			told := crew.Run(p.f, scripts)
			inOrder(t, p.kind, p.twin, scripts, told)
			makers := 0
			for _, x := range told {
				if x.Client == 0 && x.Index == 1 {
					continue
				}
				if makers++; makers == 1 && x.Answer.Err != api.OK || makers == 2 && x.Answer.Err != api.ErrExist {
					t.Errorf("P26.5: %s: the call %d that makes /a: %+v", p.kind, makers, x)
				}
			}
			if makers != 2 {
				t.Errorf("P26.4: %s: %d calls make /a", p.kind, makers)
			}
		}
	}
}

// Example 3 of the chapter.
func TestExampleNone(t *testing.T) {
	for _, p := range pairs(t, 128) {
		for _, scripts := range [][][]api.Call{nil, {}, {nil, nil}, {{}, nil}, make([][]api.Call, 1000)} {
			if told := crew.Run(p.f, scripts); len(told) != 0 {
				t.Errorf("P26.4: %s: of %d scripts without a call: %+v", p.kind, len(scripts), told)
			}
		}
		p.alike(t, "no calls")
	}
}
