package ram_test

import (
	"math"
	"math/rand"
	"slices"
	"testing"

	"bole/api"
	"bole/ram"
)

func takes(t *testing.T, l []int, n int, e api.Errno) {
	t.Helper()
	if m, f := ram.Takes(l); m != n || f != e {
		t.Errorf("P18.4: Takes(%v) of %d: %d, %d, want %d, %d", l[:min(len(l), 40)], len(l), m, f, n, e)
	}
}

func bound(t *testing.T, c api.Call, writes, flushes int) {
	t.Helper()
	if w, f := ram.Bound(c); w != writes || f != flushes {
		t.Errorf("P18.5: Bound of kind %d, %d and %d bytes: %d, %d, want %d, %d", c.Kind, len(c.Data), len(c.Other), w, f, writes, flushes)
	}
}

// P18.4: one index alone, each that there is.
func TestTakesOne(t *testing.T) {
	for k := range 16522 {
		n := 3
		if k < 138 {
			n = 2
		}
		if k < 10 {
			n = 1
		}
		takes(t, []int{k}, n, api.OK)
	}
}

// P18.4: the edges of the tables, in any order, some of them twice.
func TestTakesEdges(t *testing.T) {
	for _, c := range []struct {
		l []int
		n int
	}{
		{[]int{}, 0}, {[]int{0, 0, 0}, 1}, {[]int{9}, 1}, {[]int{9, 10}, 3}, {[]int{137}, 2}, {[]int{137, 138}, 5}, {[]int{138, 137}, 5},
		{[]int{138, 138, 138}, 3}, {[]int{265}, 3}, {[]int{266}, 3}, {[]int{265, 266}, 5}, {[]int{266, 265, 266}, 5}, {[]int{138, 265}, 4},
		{[]int{393, 394}, 5}, {[]int{16393, 16394}, 5}, {[]int{16394, 16521}, 4}, {[]int{16521, 16521, 0}, 4}, {[]int{9, 137, 16521, 138, 10, 0}, 10},
	} {
		takes(t, c.l, c.n, api.OK)
	}
	var every []int
	for k := range 16522 {
		every = append(every, k)
	}
	takes(t, every, 16522+1+1+128, api.OK)
	slices.Reverse(every)
	takes(t, append(every, every...), 16522+130, api.OK)
	takes(t, every[16522-138:], 139, api.OK)
	takes(t, every[:16522-138], 16384+129, api.OK)
	takes(t, every[16522-10:], 10, api.OK)
}

// P18.4: an index that no file has, wherever it stands.
func TestTakesFar(t *testing.T) {
	for _, k := range []int{math.MinInt, -1 << 32, -16522, -138, -1, 16522, 16523, 1 << 20, 1 << 32, 1<<32 + 5, math.MaxInt} {
		for _, l := range [][]int{{k}, {k, 0}, {0, k}, {1, 2, k, 3}, {16521, 16521, k}, {k, k}} {
			takes(t, l, 0, api.ErrFar)
		}
	}
}

// plainTakes is P18.4's words: one for each index, and the tables by their numbers.
func plainTakes(l []int) int {
	blocks := map[any]int{}
	for _, k := range l {
		blocks[k] = 1
		switch {
		case k >= 138:
			blocks["two"] = 1
			blocks[[1]int{(k - 138) / 128}] = 1
		case k >= 10:
			blocks["one"] = 1
		}
	}
	return len(blocks)
}

// P18.4: any indices against the plain words; and what a file has that is written just there.
func TestTakesAny(t *testing.T) {
	r := rand.New(rand.NewSource(1))
	for range 2000 {
		most := []int{12, 140, 300, 16522}[r.Intn(4)]
		l := make([]int, r.Intn(40))
		for i := range l {
			l[i] = r.Intn(most)
		}
		takes(t, l, plainTakes(l), api.OK)
	}
	for range 60 {
		b := fresh(t, 1024)
		b.does(create("/f"))
		l := make([]int, 1+r.Intn(25))
		for i := range l {
			l[i] = r.Intn([]int{20, 200, 16522}[r.Intn(3)])
			b.does(write("/f", l[i]*size+r.Intn(size), "x"))
		}
		n, _ := ram.Takes(l)
		if a := b.Do(lstat("/f").c); a.Stat.Blocks != n {
			t.Errorf("P18.2: a file with the indices %v has %d blocks, Takes tells %d", l, a.Stat.Blocks, n)
		}
		b.free(1024-98-1-16-1-n, 125)
	}
}

// P18.4, W3: the list that is handed in stays as it is, the room behind it too.
func TestTakesLeavesItsList(t *testing.T) {
	l := []int{300, 9, 10, 300, 0, 138, 7, 7}
	was := slices.Clone(l)
	takes(t, l[:5], 7, api.OK)
	if !slices.Equal(l, was) {
		t.Errorf("W3: Takes has changed what it was handed: %v", l)
	}
}

// P18.5: each Kind, with texts of all lengths that matter in all fields.
func TestBound(t *testing.T) {
	blocks := func(n int) int { return 2*(n/512+12) + 2 }
	for _, n := range []int{0, 1, 511, 512, 513, 1023, 1024, 16383, 16384, 16385, 100000} {
		s := rep("x", n)
		for kind := api.CallCreate; kind <= api.CallRoom; kind++ {
			w, f := 26, 4
			switch kind {
			case api.CallRead, api.CallReadlink, api.CallStat, api.CallLstat, api.CallReaddir, api.CallRoom:
				w, f = 0, 0
			case api.CallWrite:
				w = blocks(n)
				if n == 0 {
					w, f = 0, 0
				}
			case api.CallSymlink:
				bound(t, api.Call{Kind: kind, Data: s, Path: s, Size: n}, 26, 4)
				w = blocks(n)
			}
			bound(t, api.Call{Kind: kind, Data: s, Other: s, Path: s, Offset: n, Size: -n}, w, f)
			if kind == api.CallWrite && n > 0 {
				bound(t, api.Call{Kind: kind, Other: s, Path: s, Size: n}, 0, 0)
				bound(t, api.Call{Kind: kind, Data: s}, w, f)
			}
		}
		for _, kind := range noKinds() {
			bound(t, api.Call{Kind: kind, Data: s, Other: s, Path: s}, 0, 0)
		}
	}
	bound(t, api.Call{Kind: api.CallWrite, Data: rep("x", 511)}, 26, 4)
	bound(t, api.Call{Kind: api.CallWrite, Data: rep("x", 512)}, 28, 4)
	bound(t, api.Call{Kind: api.CallSymlink, Other: rep("x", 512)}, 28, 4)
}
