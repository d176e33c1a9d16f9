package pack_test

import (
	"bytes"
	"slices"
	"testing"

	"bole/adisk"
	"bole/api"
	"bole/fds"
	"bole/pack"
)

// P24.1, P24.4: while the power is out: ErrDown, but of a list that isn't right, and of what is wrong with a path's text.
func TestPowerOut(t *testing.T) {
	b := fresh(t, 1024)
	lays(t, b, exampleCalls()...)
	table := fds.New(b.FS)
	b.d.Crash(nil)
	image := b.d.Image()
	down := map[string]api.Caller{"vfs": b.FS, "fds": table}
	for _, s := range []string{"/", "/d", "/d/l", "/x", "/d/a/x"} {
		refuses(t, down, s, api.ErrDown)
		for _, f := range down {
			puts(t, f, s, exampleList(), api.ErrDown)
			puts(t, f, s, []pack.Item{link("", "x")}, api.ErrDown)
			puts(t, f, s, exampleList()[1:], api.ErrPack)
		}
	}
	for s, want := range map[string]api.Errno{"": api.ErrInval, "d": api.ErrInval, "/d\x00": api.ErrInval, "/" + rep("x", 28): api.ErrTooLong} {
		refuses(t, down, s, want)
		puts(t, b, s, exampleList(), want)
		puts(t, b, s, nil, api.ErrPack)
	}
	puts(t, b, "/d/..", exampleList(), api.ErrInval)
	if !bytes.Equal(b.d.Image(), image) {
		t.Error("the disk has changed")
	}
	tells(t, map[string]api.Caller{"vfs": reopened(t, image)}, "/d", exampleList()...)
}

// P24.1: the power goes ahead of each question: ErrDown, and no items; behind the last one it is not seen.
func TestPowerGoesBetweenQuestions(t *testing.T) {
	b := fresh(t, 1024)
	lays(t, b, wideCalls()...)
	image := b.d.Image()
	whole := &noter{f: b}
	want := tree(t, whole, "/t")
	for at := range len(whole.asked) + 1 {
		b := reopened(t, image)
		n := &noter{f: fds.New(b.FS)}
		n.refuse = func(ahead int) api.Errno {
			if ahead == at {
				b.d.Crash(nil)
			}
			return api.OK
		}
		got, e := pack.Tree(n, "/t")
		switch {
		case at < len(whole.asked) && (e != api.ErrDown || len(got) > 0 || len(n.asked) != at+1):
			t.Errorf("P24.1: the power goes ahead of question %d: Tree =%s, %d, with %d questions", at, told(got), e, len(n.asked))
		case at == len(whole.asked) && (e != api.OK || !same(got, want)):
			t.Errorf("P24.1: Tree =%s, %d", told(got), e)
		}
	}
}

// P24.4, W2: the power goes at each step of a Put, and some or all of what is pending stays: ErrDown; what was done by then stays, and the call in which it went has happened or not.
func TestPowerGoesInPut(t *testing.T) {
	list := exampleList()
	calls := plainCalls("/e", list)
	b := fresh(t, 128)
	lays(t, b, exampleCalls()...)
	image, from := b.d.Image(), b.steps()
	// What stands there behind each of the calls.
	var states [][]thing
	for k := range len(calls) + 1 {
		l, e := things(b, "/")
		if e != api.OK {
			t.Fatal(e)
		}
		states = append(states, l)
		if k < len(calls) {
			lays(t, b, calls[k])
		}
	}
	steps := b.steps() - from
	for at := 1; at <= steps+1; at++ {
		for _, keep := range [][]bool{nil, {true}, {false, true}, slices.Repeat([]bool{true}, 99)} {
			b := reopened(t, image)
			b.d.Arm(api.Crash{At: at, Keep: keep})
			n := &noter{f: b}
			e := pack.Put(n, "/e", list)
			if at > steps {
				if e != api.OK {
					t.Errorf("P24.4: Put has more than %d steps: %d", steps, e)
				}
				continue
			}
			if e != api.ErrDown || !slices.Equal(n.asked, calls[:len(n.asked)]) {
				t.Errorf("P24.4: the power goes at step %d: Put = %d, with %d calls", at, e, len(n.asked))
			}
			d, _ := adisk.Open(b.d.Image())
			l, _ := things(mounted(t, d), "/")
			if done := len(n.asked) - 1; !slices.Equal(l, states[done]) && !slices.Equal(l, states[done+1]) {
				t.Errorf("P24.4: the power goes at step %d, in call %d, keep %v: what stands there is neither what was ahead of the call nor what is behind it", at, done, keep)
			}
		}
	}
}

// P0.8: a pack is put on a disk on which other Puts of it were cut by the power, each further on: the one that goes through makes the same tree.
func TestPutBehindCuts(t *testing.T) {
	source := memory(t, 1024)
	lays(t, source, wideCalls()...)
	whole, _ := things(source, "/t")
	b := encoded(t, tree(t, source, "/t"))
	image, cuts := fresh(t, 1024).d.Image(), 0
	for e := api.ErrDown; e != api.OK; cuts++ {
		d := reopened(t, image)
		d.d.Arm(api.Crash{At: 1 + 97*cuts, Keep: []bool{true, false, true}})
		l, _ := pack.Decode(b)
		at := "/" + rep("n", 1+cuts)
		switch e = pack.Put(d, at, l); e {
		case api.ErrDown:
			image = d.d.Image()
		case api.OK:
			if there, e := things(d, at); e != api.OK || !plainSame(whole, there) {
				t.Errorf("P0.8: what was put is another tree: %d", e)
			}
			tells(t, map[string]api.Caller{"vfs": d.FS}, at, l...)
		default:
			t.Fatalf("P24.4: behind %d cuts: Put: %d", cuts, e)
		}
	}
	if cuts < 5 {
		t.Errorf("only %d Puts were cut", cuts-1)
	}
}
