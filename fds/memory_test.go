package fds_test

import (
	"slices"
	"strings"
	"sync"
	"testing"
	"unsafe"

	"bole/api"
)

// loose is a text whose bytes can be changed behind the back of who has it.
func loose(s string) (string, []byte) {
	b := []byte(s)
	return unsafe.String(unsafe.SliceData(b), len(b)), b
}

func spoil(b []byte) {
	for i := range b {
		b[i] = '#'
	}
}

// spoilText writes over the bytes of a text that was answered.
func spoilText(s string) {
	if s != "" {
		spoil(unsafe.Slice(unsafe.StringData(s), len(s)))
	}
}

// W3: texts that are handed in are neither kept nor changed.
func TestArgumentsAreNotKept(t *testing.T) {
	b := fresh(t, 128)
	path, p := loose("/name of it")
	other, o := loose("/other name")
	data, d := loose(rep("0123456789", 200))
	b.opens(0, path, rw|create)
	b.tells(writes(0, data), 2000)
	b.opens(1, path, w|behind)
	b.tells(writes(1, data), 2000)
	b.does(link(path, other), rename(path, other))
	if string(p) != "/name of it" || string(o) != "/other name" || string(d) != rep("0123456789", 200) {
		t.Errorf("W3: what was handed in has changed")
	}
	spoil(p)
	spoil(o)
	spoil(d)
	b.holds("/other name", rep("0123456789", 400))
	b.is(0, 2, 2, 4000, 8)
	b.gives(readdir("/"), out{a: api.Answer{Names: []string{"name of it", "other name"}}})
	b.does(unlink("/name of it"), unlink("/other name"))
	b.is(1, 2, 0, 4000, 8)
	b.closesAll()
}

// P21.11, W3: what is answered is new memory: written over by the caller, spare room with it, it changes neither the table nor another answer.
func TestAnswersAreNew(t *testing.T) {
	b := four(t, 128, 2000)
	b.does(mkdir("/dir"), creates("/dir/one"), creates("/dir/two"), symlink("dir/one", "/link"))
	first, second := b.Numbers(), b.Numbers()
	first = first[:cap(first)]
	for i := range first {
		first[i] = -7
	}
	if want := []int{0, 1, 2, 3}; !slices.Equal(second, want) || !slices.Equal(b.Numbers(), want) {
		t.Errorf("P21.11: a list of numbers, written over, changes others")
	}
	for range 12 {
		b.does(dups(0))
	}
	full := b.Numbers()
	spoiled := b.Numbers()
	clear(spoiled[:cap(spoiled)])
	b.does(closes(5))
	if len(full) != 16 || full[5] != 5 || full[15] != 15 || len(b.Numbers()) != 15 {
		t.Errorf("P21.11: a list of numbers changes behind it: %v", full)
	}

	read := func() string {
		b.does(seeks(1, 100, 0))
		s, _ := b.Read(1, 1500)
		return s
	}
	one, other := read(), read()
	spoilText(one)
	if want := pattern(2000)[100:1600]; other != want || read() != want {
		t.Errorf("P21.11: bytes that were read, written over, change others")
	}
	// No text of one byte: those stand once in a Go program, where nobody can write over them.
	for _, p := range []op{readdir("/dir"), readlink("/link"), readOf("/f", 10, 700)} {
		one, other := p.on(b), p.on(b)
		kept := p.on(b)
		kept.a.Data = strings.Clone(kept.a.Data)
		kept.a.Names = slices.Clone(kept.a.Names)
		for i, s := range kept.a.Names {
			kept.a.Names[i] = strings.Clone(s)
		}
		spoilText(one.a.Data)
		names := one.a.Names[:cap(one.a.Names)]
		for i := range names {
			spoilText(names[i])
			names[i] = "written over"
		}
		if !same(other, kept) || !same(p.on(b), kept) {
			t.Errorf("P21.11: an answer of %v, written over, changes others", p)
		}
	}
	b.closesAll()
}

// P21.11: bytes and numbers that were told stay as they were when the table and its files change.
func TestAnswersStay(t *testing.T) {
	b := four(t, 128, 2000)
	s, _ := b.Read(1, 1000)
	l := b.Numbers()
	st, _ := b.Stat(0)
	b.does(writes(0, rep("X", 2000)), cuts(2, 10), unlink("/f"), closes(1), closes(0), closes(2), closes(3), opens("/g", w|create), writes(0, rep("Y", 3000)))
	if s != pattern(1000) || !slices.Equal(l, []int{0, 1, 2, 3}) || st.Size != 2000 || st.Links != 1 {
		t.Errorf("P21.11: what was told has changed: %.20q, %v, %+v", s, l, st)
	}
}

// W5: what is answered hangs on nothing else: many tables at one time, none sees another.
func TestManyAtOnce(t *testing.T) {
	image := wood(t).d.Image()
	told := func(x *desk) string {
		var s strings.Builder
		for _, p := range []op{
			opens("/f", rw), opens("/d/g", rw|behind), dups(0), writes(1, pattern(900)), reads(0, 700), unlink("/f"), unlink("/d/h"), reads(2, 16384), writes(0, "more"), rename("/d/g", "/x"),
			opens("/y", rw|create|excl), stats(0), closes(0), closes(2), closes(1), room(), readdir("/"), closes(3),
		} {
			s.WriteString(p.on(x).String())
		}
		return s.String() + string(x.d.Image())
	}
	want := told(opened(t, image))
	answers := make([]string, 8)
	var all sync.WaitGroup
	for i := range answers {
		x := opened(t, image)
		all.Go(func() { answers[i] = told(x) })
	}
	all.Wait()
	for _, s := range answers {
		if s != want {
			t.Errorf("W5: a table beside others is another one")
		}
	}
}
