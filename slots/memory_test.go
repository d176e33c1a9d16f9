package slots_test

import (
	"bytes"
	"slices"
	"strings"
	"sync"
	"testing"

	"bole/api"
	"bole/slots"
)

// P14.5: names that were told are copies: the block's bytes written over later change none.
func TestNamesAreCopies(t *testing.T) {
	for _, b := range samples() {
		want, _, _ := plain(b)
		l, _ := slots.Read(b)
		for i := range b {
			b[i] = '!'
		}
		for i := range l {
			if l[i] != want[i] {
				t.Errorf("P14.5: %s was told, and is %s since the block was written over", shortEntry(want[i]), shortEntry(l[i]))
			}
		}
	}
}

// P14.5: what Put has written doesn't hang on its Name's memory, nor what was told on what is put later.
func TestPutCopies(t *testing.T) {
	b := blockOf(cell(0, "first", 1), cell(1, "second", 2))
	l, _ := slots.Read(b)
	slots.Put(b, cell(0, strings.Repeat("z", 27), 3))
	slots.Clear(b, 1)
	if !slices.Equal(l, []api.Entry{cell(0, "first", 1), cell(1, "second", 2)}) {
		t.Errorf("P14.5: what was told has changed: %s", shortList(l))
	}
}

// W3: a list that is written over by the caller, its spare room too, changes no other answer, no later one, and not the block.
func TestListsWrittenOver(t *testing.T) {
	for _, b := range samples() {
		before := bytes.Clone(b)
		want, low, _ := plain(b)
		first, _ := slots.Read(b)
		second, _ := slots.Read(b)
		first = first[:cap(first)]
		for i := range first {
			first[i] = cell(99, "written over", 99)
		}
		if !slices.Equal(second, want) || !bytes.Equal(b, before) {
			t.Errorf("W3: a list has changed with another one: %s, want %s", shortList(second), shortList(want))
		}
		_ = append(second[:0], first...)
		wantBoth(t, b, want, low, api.OK)
	}
}

// W3: nothing of a wrong block is told in the spare room beside an error, nor of a free cell behind the list.
func TestSpareRoomIsEmpty(t *testing.T) {
	for _, b := range samples() {
		l, _ := slots.Read(b)
		for _, e := range l[len(l):cap(l)] {
			if e != (api.Entry{}) {
				t.Errorf("in the spare room of %s stands %s", short(b), shortEntry(e))
			}
		}
	}
}

// P14.5, W5: nothing is kept between the calls: whatever was asked ahead, and however often, the answers are the same.
func TestNothingIsKept(t *testing.T) {
	blocks := append(samples(), broken(), make([]byte, 511), make([]byte, 513))
	for range 2 {
		for i := range blocks {
			wantPlain(t, blocks[i])
			wantPutPlain(t, blocks[len(blocks)-1-i], cell(i, "kept", i))
			wantPlain(t, blocks[len(blocks)-1-i])
			wantClearPlain(t, blocks[i], 15-i)
			wantPlain(t, blocks[i])
		}
	}
}

// P14.5: the same memory with other bytes is read anew.
func TestReadAnew(t *testing.T) {
	b := zeros()
	for _, s := range append(samples(), broken()) {
		copy(b, s)
		taken, low, err := plain(s)
		if l, e := slots.Read(b); !slices.Equal(l, taken) || e != err {
			t.Errorf("P14.5: Read of %s: %s, %d", short(s), shortList(l), e)
		}
		if n, e := slots.Lowest(b); n != low || e != err {
			t.Errorf("P14.5: Lowest of %s: %d, %d", short(s), n, e)
		}
	}
}

// W3: calls at the same time, on blocks of their own and reading the same ones, don't meet.
func TestCallsAtOnce(t *testing.T) {
	same := samples()
	var all sync.WaitGroup
	for k := range 8 {
		all.Go(func() {
			for _, b := range same {
				taken, low, err := plain(b)
				if l, e := slots.Read(b); !slices.Equal(l, taken) || e != err {
					t.Errorf("Read of %s: %s, %d", short(b), shortList(l), e)
				}
				if n, e := slots.Lowest(b); n != low || e != err {
					t.Errorf("Lowest of %s: %d, %d", short(b), n, e)
				}
				wantPutPlain(t, b, cell(k, "at once", k+1))
				wantClearPlain(t, b, k)
			}
		})
	}
	all.Wait()
}
