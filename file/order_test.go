package file_test

import (
	"fmt"
	"math"
	"slices"
	"strings"
	"testing"

	"bole/api"
)

// below are numbers that no off and no size is.
var below = []int{-1, -2, -512, -1 << 32, math.MinInt + 1, math.MinInt}

// noRecord is the bytes of a block of the table in which no inode has a record.
func noRecord() []byte { return filled(9) }

// P12.1, P12.2, P12.3: ErrInval is told ahead of all else, of any inode and of a transaction that can't be asked.
func TestInvalFirst(t *testing.T) {
	for how := range ends {
		w := fresh(t, 128)
		w.lay(100, noRecord())
		w.end(how)
		w.still(how, func() {
			for _, n := range []int{math.MinInt, -1, 0, 1, 2, 4, 5, 9, 15, 16, 99, math.MaxInt} {
				for _, v := range below {
					for _, other := range []int{v, -1, 0, 1, most + 1, math.MaxInt} {
						w.noRead("P12.1: off: "+how, n, v, other, api.ErrInval)
						w.noRead("P12.1: size: "+how, n, other, v, api.ErrInval)
					}
					for _, s := range []string{"", "a", text(600, 1)} {
						w.write("P12.2: "+how, n, v, s, api.ErrInval)
					}
					w.cut("P12.3: "+how, n, v, api.ErrInval)
				}
			}
		})
	}
}

// asks makes calls that would do nothing, calls that would do something and calls that are too big; all are refused alike.
func (w *world) asks(what string, n int, code api.Errno) {
	w.t.Helper()
	w.refused(what, n, code)
	w.still(what, func() {
		for _, off := range []int{0, 1, most, most + 1, math.MaxInt} {
			for _, count := range []int{0, 1, math.MaxInt} {
				w.noRead("P12.1: "+what, n, off, count, code)
			}
			w.write("P12.2: "+what, n, off, "", code)
			w.write("P12.2: "+what, n, off, "ab", code)
			w.cut("P12.3: "+what, n, off, code)
		}
		w.cut("P12.3: its size: "+what, n, 9, code)
		w.cut("P12.3: its size: "+what, n, 512, code)
	})
}

// P12.1 to P12.4: numbers that no inode has: ahead of what the transaction says, and of ErrBig.
func TestNoInode(t *testing.T) {
	for _, length := range []int{128, 300} {
		for how := range ends {
			w := fresh(t, length)
			w.end(how)
			for _, n := range []int{math.MinInt, -8, -1, 0, w.g.Count, w.g.Count + 1, 99, 1 << 32, 1<<32 + 5, math.MaxInt} {
				w.asks(how, n, api.ErrInode)
			}
		}
	}
}

// P12.1 to P12.4: what inode.Get says of an inode's block and of its bytes; ahead of ErrBig, and of a call that would do nothing.
func TestWhatGetSays(t *testing.T) {
	for how, code := range ends {
		w := on(t, 128, all, map[int]api.Inode{1: sized(aDir, 512), 2: aLink, 5: aFile, 9: aFile}, nil)
		w.lay(100, noRecord())
		w.end(how)
		record := code
		if how == "under way" || how == "down" {
			record = api.ErrRecord
		}
		w.asks(how+", no record", 9, record)
		if code != api.OK {
			for _, n := range []int{1, 2, 4, 5} {
				w.asks(how, n, code)
			}
		}
	}
}

// P12.1 to P12.4: free inodes: ahead of ErrBig.
func TestFreeInode(t *testing.T) {
	w := fresh(t, 300)
	for _, n := range []int{3, 4, 7, 8, 15, 31} {
		w.asks("free", n, api.ErrInode)
	}
	w.stuff(0)
	w.asks("free, no room", 31, api.ErrInode)
	w = on(t, 300, none, nil, nil)
	w.asks("free, no space", 1, api.ErrInode)
}

// P12.2, P12.3: ErrBig ahead of all that comes of the inode's numbers, of space and of room.
func TestBigAheadOfTheRest(t *testing.T) {
	bad := api.Inode{Kind: 1, Links: 1, Size: 700, One: 5, Two: 6}
	for i := range bad.Direct {
		bad.Direct[i] = 100
	}
	dir := bad
	dir.Kind, dir.Links, dir.Size = 2, 2, 512
	w := on(t, 300, none, map[int]api.Inode{1: dir, 5: bad}, nil)
	w.keep(99)
	hold := func() {
		for _, n := range []int{1, 5} {
			w.write("P12.2", n, most, "a", api.ErrBig)
			w.write("P12.2", n, 5, strings.Repeat("a", most-4), api.ErrBig)
			w.write("P12.2", n, most+1, "", api.ErrBig)
			w.cut("P12.3", n, most+1, api.ErrBig)
			w.cut("P12.3", n, math.MaxInt, api.ErrBig)
		}
	}
	w.still("ErrPointer", hold)
	w.stuff(0)
	w.still("ErrTooBig", hold)
	w.d.Crash(nil)
	w.still("ErrDown", hold)
}

// flawed is a file in which things are wrong: a number is no data block's (look), or a block can't be read (read).
type flawed struct {
	x     api.Inode
	nums  map[int]map[int]int
	blind []int
}

// spot is where a number stands: in a table, or in the record (0).
type spot struct{ table, at, number int }

// The file has blocks at the indices 8 to 11 and 137 to 139.
var spots = map[string]spot{
	"8": {0, 8, 115}, "9": {0, 9, 116},
	"One": {0, 10, 110}, "10": {110, 0, 117}, "11": {110, 1, 122}, "137": {110, 127, 118},
	"Two": {0, 11, 111}, "Two 0": {111, 0, 112}, "138": {112, 0, 119}, "139": {112, 1, 120},
}

// sound is the file with nothing wrong: a directory, so that a size may be no size of it.
func sound() *flawed {
	f := &flawed{x: sized(aDir, 140*size), nums: map[int]map[int]int{110: {}, 111: {}, 112: {}}}
	for where := range spots {
		f.set(where, spots[where].number)
	}
	return f
}

func (f *flawed) set(where string, n int) {
	s := spots[where]
	if s.table == 0 {
		f.x = withNumber(f.x, s.at, n)
	} else {
		f.nums[s.table][s.at] = n
	}
}

// spoil makes a thing wrong, and tells the error of it.
func (f *flawed) spoil(fault string) api.Errno {
	word, where, _ := strings.Cut(fault, " ")
	if word == "read" {
		f.blind = append(f.blind, spots[where].number)
		return api.ErrDown
	}
	f.set(where, 99)
	return api.ErrPointer
}

// laid lays it on a disk whose power is out, as inode 1, with all put that is to be read.
func (f *flawed) laid(t *testing.T) *world {
	t.Helper()
	blocks := map[int][]byte{}
	for n, nums := range f.nums {
		blocks[n] = table(nums)
	}
	w := on(t, 128, none, map[int]api.Inode{1: f.x}, blocks)
	w.keep(98, 99)
	for _, s := range spots {
		if !slices.Contains(f.blind, s.number) {
			w.keep(s.number)
		}
	}
	w.d.Crash(nil)
	return w
}

// firstTold makes each two of some faults, and each alone, and asks for the error of the one ahead.
func firstTold(t *testing.T, faults []string, ask func(w *world, what string, code api.Errno)) {
	t.Helper()
	for i, a := range faults {
		for _, b := range faults[i:] {
			f := sound()
			code := f.spoil(a)
			f.spoil(b)
			w := f.laid(t)
			w.still(a+" and "+b, func() { ask(w, a+" and "+b, code) })
		}
	}
	w := sound().laid(t)
	w.still("nothing wrong", func() { w.reads("nothing wrong", 1, 11*size, 3, "\x07\x07\x07") })
}

// low and high are the faults on the ways to the indices 8 to 11 and 137 to 139, and of their blocks, as they are met.
var (
	low  = []string{"look 8", "read 8", "look 9", "read 9", "look One", "read One", "look 10", "read 10", "look 11", "read 11"}
	high = []string{"look One", "read One", "look 137", "read 137", "look Two", "read Two", "look Two 0", "read Two 0", "look 138", "read 138", "look 139", "read 139"}
)

// P12.1: for each index, from the lowest on, its way and then its block.
func TestOrderOfRead(t *testing.T) {
	firstTold(t, low, func(w *world, what string, code api.Errno) {
		w.noRead("P12.1: "+what, 1, 8*size+100, 3*size, code)
	})
	firstTold(t, high, func(w *world, what string, code api.Errno) {
		w.noRead("P12.1: "+what, 1, 137*size, most, code)
	})
	firstTold(t, slices.Concat(low, high[2:]), func(w *world, what string, code api.Errno) {
		w.noRead("P12.1: "+what, 1, 0, most, code)
	})
}

// P12.2: likewise, each index to its end ahead of the next one; a size that may not be comes last.
func TestOrderOfWrite(t *testing.T) {
	firstTold(t, low, func(w *world, what string, code api.Errno) {
		w.write("P12.2: "+what, 1, 8*size+100, text(3*size, 1), code)
	})
	firstTold(t, high, func(w *world, what string, code api.Errno) {
		w.write("P12.2: "+what, 1, 137*size+100, text(2*size, 1), code)
	})
	// The last one of them reaches one byte behind the size: with nothing else wrong that would be ErrSpace, and is not met.
	firstTold(t, high, func(w *world, what string, code api.Errno) {
		w.write("P12.2: "+what, 1, 137*size+100, text(3*size-99, 1), code)
	})
	w := sound().laid(t)
	w.write("P12.2: nothing wrong", 1, 8*size+100, text(3*size, 1), api.OK)
	w.reads("P12.2: nothing wrong", 1, 8*size+100, 3*size, text(3*size, 1))
}

// P12.4: as bmap.All goes.
func TestOrderOfBlocks(t *testing.T) {
	faults := []string{"look 8", "look 9", "look One", "read One", "look 10", "look 11", "look 137", "look Two", "read Two", "look Two 0", "read Two 0", "look 138", "look 139"}
	firstTold(t, faults, func(w *world, what string, code api.Errno) { w.noBlocks("P12.4: "+what, 1, code) })
}

// P12.2: a Write over a block, a hole, a block and a hole: the error of what comes first, with the power out: numbers, blocks that can't be read, no space, a size that may not be.
func TestOrderOfWriteOverHoles(t *testing.T) {
	for flags := range 64 {
		for left := range 3 {
			is := func(i int) bool { return flags>>i&1 == 1 }
			x := sized(aFile, 100)
			if is(5) {
				x = sized(aDir, 512)
			}
			x.Direct[0], x.Direct[2] = 110, 111
			if is(0) {
				x.Direct[0] = 100
			}
			if is(3) {
				x.Direct[2] = 128
			}
			w := on(t, 128, only([]int{112, 113}[:left]...), map[int]api.Inode{5: x}, nil)
			w.keep(99, 120)
			for i, block := range map[int]int{1: 110, 2: 98, 4: 111} {
				if !is(i) {
					w.keep(block)
				}
			}
			w.d.Crash(nil)
			code := api.OK
			switch {
			case is(0):
				code = api.ErrPointer
			case is(1), is(2):
				code = api.ErrDown
			case left == 0:
				code = api.ErrSpace
			case is(3):
				code = api.ErrPointer
			case is(4):
				code = api.ErrDown
			case left == 1:
				code = api.ErrSpace
			case is(5):
				code = api.ErrRecord
			}
			what := fmt.Sprintf("P12.2: wrong %06b, %d free", flags, left)
			if code != api.OK {
				w.still(what, func() { w.write(what, 5, 10, text(3*size+20, 1), code) })
				continue
			}
			w.write(what, 5, 10, text(3*size+20, 1), code)
			w.reads(what, 5, 10, most, text(3*size+20, 1))
			w.written(what, 98, 99, 110, 111, 112, 113, 120)
		}
	}
}

// P12.2: the same with the power there, and with room for a few blocks more: each is put as it is met, the record behind all.
func TestOrderOfWriteAndRoom(t *testing.T) {
	for room := range 7 {
		for left := range 3 {
			for flags := range 8 {
				is := func(i int) bool { return flags>>i&1 == 1 }
				x := sized(aFile, 100)
				if is(0) {
					x = sized(aDir, 512)
				}
				x.Direct[0], x.Direct[2] = 110, 111
				if is(1) {
					x.Direct[2] = 5
				}
				w := on(t, 300, only([]int{112, 113}[:left]...), map[int]api.Inode{5: x}, nil)
				need := 0
				if is(2) {
					w.keep(99)
				}
				w.stuff(room)
				full := func(puts int) bool {
					need += puts
					return need > room
				}
				record := 1
				if is(2) {
					record = 0
				}
				code := api.OK
				switch {
				case full(1):
					code = api.ErrTooBig
				case left == 0:
					code = api.ErrSpace
				case full(2):
					code = api.ErrTooBig
				case is(1):
					code = api.ErrPointer
				case full(1):
					code = api.ErrTooBig
				case left == 1:
					code = api.ErrSpace
				case full(1):
					code = api.ErrTooBig
				case is(0):
					code = api.ErrRecord
				case full(record):
					code = api.ErrTooBig
				}
				what := fmt.Sprintf("P12.2: wrong %03b, %d free, room for %d", flags, left, room)
				if code != api.OK {
					w.still(what, func() { w.write(what, 5, 10, text(3*size+20, 1), code) })
					continue
				}
				after := append(w.x.Written(), 98, 99, 110, 111, 112, 113)
				w.write(what, 5, 10, text(3*size+20, 1), code)
				w.written(what, after...)
			}
		}
	}
}

// cutFile is a file that is cut inside the index k, whose block is 110; behind it there are 115 and 116.
func cutFile(k int, bad, behind bool) (api.Inode, map[int][]byte) {
	edge, next := 110, 116
	if bad {
		edge = 1
	}
	if behind {
		next = 98
	}
	x := sized(aFile, (k+5)*size)
	switch {
	case k < 8:
		return withNumber(withNumber(withNumber(x, k, edge), k+1, 115), k+2, next), nil
	case k < 138:
		return withNumber(x, 10, 111), map[int][]byte{111: table(map[int]int{k - 10: edge, k - 9: 115, k - 8: next})}
	}
	return withNumber(x, 11, 111), map[int][]byte{111: table(map[int]int{0: 112}), 112: table(map[int]int{k - 138: edge, k - 137: 115, k - 136: next})}
}

// P12.3: what bmap.Cut says, then what Find says, then of its block Read; then the size that may not be.
func TestOrderOfCut(t *testing.T) {
	for _, k := range []int{0, 3, 10, 50, 138, 200} {
		for flags := range 64 {
			is := func(i int) bool { return flags>>i&1 == 1 }
			x, blocks := cutFile(k, is(3), is(1))
			if is(5) {
				x = sized(withKind(x, aDir), x.Size)
			}
			free := none
			if is(2) {
				free = only(115)
			}
			w := on(t, 128, free, map[int]api.Inode{5: x}, blocks)
			w.keep(99, 120, 111, 112)
			if !is(0) {
				w.keep(98)
			}
			if !is(4) {
				w.keep(110)
			}
			w.d.Crash(nil)
			code := api.OK
			switch {
			case is(0):
				code = api.ErrDown
			case is(2):
				code = api.ErrFree
			case is(1), is(3):
				code = api.ErrPointer
			case is(4):
				code = api.ErrDown
			case is(5):
				code = api.ErrRecord
			}
			what := fmt.Sprintf("P12.3: at %d, wrong %06b", k, flags)
			if code != api.OK {
				w.still(what, func() { w.cut(what, 5, k*size+100, code) })
				continue
			}
			w.cut(what, 5, k*size+100, code)
			w.size(what, 5, k*size+100)
			w.reads(what, 5, k*size, most, string(filled(7)[:100]))
		}
	}
}

func withKind(x, kind api.Inode) api.Inode {
	x.Kind, x.Links = kind.Kind, kind.Links
	return x
}

// P12.3: the same with the power there, and with room for a few blocks more: the bitmap and a table, the index's block, the record.
func TestOrderOfCutAndRoom(t *testing.T) {
	for _, k := range []int{0, 3, 10, 50, 138, 200} {
		for room := range 6 {
			for flags := range 16 {
				is := func(i int) bool { return flags>>i&1 == 1 }
				x, blocks := cutFile(k, is(0), is(1))
				if is(2) {
					x = sized(withKind(x, aDir), x.Size)
				}
				w := on(t, 300, none, map[int]api.Inode{5: x}, blocks)
				puts := map[bool][]int{true: {98}, false: {98, 111}}[k < 10]
				if k >= 138 {
					puts[1] = 112
				}
				need, record := 0, 1
				if is(3) {
					w.keep(99)
					record = 0
				}
				w.stuff(room)
				full := func(puts int) bool {
					need += puts
					return need > room
				}
				code := api.OK
				switch {
				case full(1):
					code = api.ErrTooBig
				case is(1):
					code = api.ErrPointer
				case full(len(puts) - 1):
					code = api.ErrTooBig
				case is(0):
					code = api.ErrPointer
				case full(1):
					code = api.ErrTooBig
				case is(2):
					code = api.ErrRecord
				case full(record):
					code = api.ErrTooBig
				}
				what := fmt.Sprintf("P12.3: at %d, wrong %04b, room for %d", k, flags, room)
				if code != api.OK {
					w.still(what, func() { w.cut(what, 5, k*size+100, code) })
					continue
				}
				after := append(append(w.x.Written(), puts...), 99, 110)
				w.cut(what, 5, k*size+100, code)
				w.written(what, after...)
				w.free(what, 2)
			}
		}
	}
}

// P12.1 to P12.4: behind Commit a transaction is over too.
func TestBehindCommit(t *testing.T) {
	w := fresh(t, 128)
	w.write("P12.2", 5, 0, "abc", api.OK)
	want(t, "Commit", w.x.Commit(), api.OK)
	w.asks("over", 5, api.ErrOver)
	w.refused("over", 99, api.ErrInode)
}
