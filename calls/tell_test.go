package calls_test

import (
	"math"
	"testing"

	"bole/api"
)

// fullAnswer is a good answer with something in each field.
func fullAnswer() api.Answer {
	return api.Answer{N: 7, Data: "a b", Stat: api.Stat{Inode: 3, Kind: 1, Links: 1, Size: 700, Blocks: 2}, Names: []string{"b", "a b"}, Room: api.Room{FreeBlocks: 26, Blocks: 27, FreeInodes: 13, Inodes: 15}}
}

// P25.5: each Kind, with a good answer, a full one and one of zeros.
func TestTellEveryKind(t *testing.T) {
	for kind, want := range map[int][2]string{
		api.CallCreate:   {"7", "0"},
		api.CallMkdir:    {"7", "0"},
		api.CallRead:     {`"a b"`, `""`},
		api.CallWrite:    {"7", "0"},
		api.CallTruncate: {"ok", "ok"},
		api.CallUnlink:   {"ok", "ok"},
		api.CallRmdir:    {"ok", "ok"},
		api.CallRename:   {"ok", "ok"},
		api.CallLink:     {"ok", "ok"},
		api.CallSymlink:  {"7", "0"},
		api.CallReadlink: {`"a b"`, `""`},
		api.CallStat:     {"3 1 1 700 2", "0 0 0 0 0"},
		api.CallLstat:    {"3 1 1 700 2", "0 0 0 0 0"},
		api.CallReaddir:  {"2\nb\n\"a b\"", "0"},
		api.CallRoom:     {"26 27 13 15", "0 0 0 0"},
	} {
		tells(t, api.Call{Kind: kind}, fullAnswer(), want[0])
		tells(t, fullCall(kind), fullAnswer(), want[0])
		tells(t, api.Call{Kind: kind}, api.Answer{}, want[1])
		tells(t, fullCall(kind), api.Answer{}, want[1])
	}
}

// P25.5: what is no Kind.
func TestTellNoKind(t *testing.T) {
	for _, kind := range noKinds() {
		tells(t, api.Call{Kind: kind}, fullAnswer(), "ok")
		tells(t, fullCall(kind), fullAnswer(), "ok")
		tells(t, fullCall(kind), api.Answer{}, "ok")
		tells(t, fullCall(kind), api.Answer{Err: api.ErrInval}, "! E1")
	}
}

// allErrors are the errors that there are, some that aren't, and some below 0.
func allErrors() []api.Errno {
	l := []api.Errno{-1, -5, -10, -160, math.MinInt, math.MinInt + 1, math.MaxInt, 999, 1 << 32, -1 << 32}
	for e := api.Errno(1); e <= 300; e++ {
		l = append(l, e)
	}
	return l
}

// P25.5: each error, of each Kind and of none, whatever else is in the answer.
func TestTellErrors(t *testing.T) {
	for _, kind := range append(allKinds(), noKinds()...) {
		for _, e := range allErrors() {
			want := plainTell(api.Call{Kind: kind}, api.Answer{Err: e})
			tells(t, api.Call{Kind: kind}, api.Answer{Err: e}, want)
			full := fullAnswer()
			full.Err = e
			tells(t, fullCall(kind), full, want)
		}
	}
	for e, want := range map[api.Errno]string{api.ErrNone: "! E160", api.ErrInval: "! E1", api.ErrScript: "! E280", -5: "! E-5", math.MinInt: "! E-9223372036854775808", math.MaxInt: "! E9223372036854775807"} {
		tells(t, api.Call{Kind: api.CallReaddir}, api.Answer{Err: e, Names: []string{"a"}}, want)
	}
}

// P25.5: numbers below 0 and at the edges, in each field that is told.
func TestTellNumbers(t *testing.T) {
	for _, v := range edgeNumbers() {
		for _, a := range []api.Answer{
			{N: v},
			{Stat: api.Stat{Inode: v}}, {Stat: api.Stat{Kind: v}}, {Stat: api.Stat{Links: v}}, {Stat: api.Stat{Size: v}}, {Stat: api.Stat{Blocks: v}},
			{Stat: api.Stat{Inode: v, Kind: v, Links: v, Size: v, Blocks: v}},
			{Room: api.Room{FreeBlocks: v}}, {Room: api.Room{Blocks: v}}, {Room: api.Room{FreeInodes: v}}, {Room: api.Room{Inodes: v}},
			{Room: api.Room{FreeBlocks: v, Blocks: v, FreeInodes: v, Inodes: v}},
		} {
			for _, kind := range allKinds() {
				c := api.Call{Kind: kind}
				tells(t, c, a, plainTell(c, a))
			}
		}
	}
	tells(t, api.Call{Kind: api.CallWrite}, api.Answer{N: -1 << 63}, "-9223372036854775808")
	tells(t, api.Call{Kind: api.CallSymlink}, api.Answer{N: 1<<63 - 1}, "9223372036854775807")
	tells(t, api.Call{Kind: api.CallLstat}, api.Answer{Stat: api.Stat{Inode: -1, Kind: -2, Links: -3, Size: -4, Blocks: -5}}, "-1 -2 -3 -4 -5")
	tells(t, api.Call{Kind: api.CallRoom}, api.Answer{Room: api.Room{FreeBlocks: -1, Blocks: -2, FreeInodes: -3, Inodes: -4}}, "-1 -2 -3 -4")
}

// P25.5: no data, and data of each kind.
func TestTellData(t *testing.T) {
	for _, kind := range []int{api.CallRead, api.CallReadlink} {
		c := api.Call{Kind: kind}
		for _, s := range append(edgeTexts(), allBytes()...) {
			tells(t, c, api.Answer{Data: s, N: 9}, plainQuote(s))
		}
		tells(t, c, api.Answer{}, `""`)
		tells(t, c, api.Answer{Data: "ok"}, "ok")
		tells(t, c, api.Answer{Data: "! E160"}, `"! E160"`)
		tells(t, c, api.Answer{Data: rep("\x00", api.MaxIO)}, `"`+rep(`\x00`, api.MaxIO)+`"`)
	}
}

// P25.5: no name and several, names with blanks and line breaks.
func TestTellNames(t *testing.T) {
	c := api.Call{Kind: api.CallReaddir}
	tells(t, c, api.Answer{Names: nil}, "0")
	tells(t, c, api.Answer{Names: []string{}}, "0")
	tells(t, c, api.Answer{Names: []string{""}}, "1\n\"\"")
	tells(t, c, api.Answer{Names: []string{"", ""}}, "2\n\"\"\n\"\"")
	tells(t, c, api.Answer{Names: []string{"a"}}, "1\na")
	tells(t, c, api.Answer{Names: []string{"b", "a", "b"}}, "3\nb\na\nb")
	tells(t, c, api.Answer{Names: []string{"a\nb", " ", "1", "\n"}}, "4\n\"a\\x0ab\"\n\" \"\n1\n\"\\x0a\"")
	tells(t, c, api.Answer{Names: edgeTexts()}, plainTell(c, api.Answer{Names: edgeTexts()}))
	tells(t, c, api.Answer{Names: allBytes()}, plainTell(c, api.Answer{Names: allBytes()}))
	for _, n := range []int{9, 10, 11, 99, 100, 101, 1000} {
		names := make([]string, n)
		for i := range names {
			names[i] = rep("x", i%28)
		}
		tells(t, c, api.Answer{Names: names}, plainTell(c, api.Answer{Names: names}))
	}
}

// P25.5: what isn't told is not looked at: no other field changes what is told.
func TestTellOtherFields(t *testing.T) {
	one := fullAnswer()
	for _, kind := range append(allKinds(), noKinds()...) {
		r, _ := plainRowOf(kind)
		for _, x := range []struct {
			told string
			a    api.Answer
		}{
			{"N", api.Answer{N: 99}},
			{"DATA", api.Answer{Data: "other"}},
			{"STAT", api.Answer{Stat: api.Stat{Inode: 9, Kind: 9, Links: 9, Size: 9, Blocks: 9}}},
			{"NAMES", api.Answer{Names: []string{"x", "y"}}},
			{"ROOM", api.Answer{Room: api.Room{FreeBlocks: 9, Blocks: 9, FreeInodes: 9, Inodes: 9}}},
		} {
			if r.told == x.told {
				continue
			}
			want := plainTell(api.Call{Kind: kind}, api.Answer{})
			tells(t, api.Call{Kind: kind}, x.a, want)
		}
		for _, c := range []api.Call{{Path: "x"}, {Other: "x"}, {Data: "x"}, {Offset: -9}, {Size: 9}} {
			c.Kind = kind
			tells(t, c, one, plainTell(api.Call{Kind: kind}, one))
		}
	}
}
