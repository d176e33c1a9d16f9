package fds_test

import (
	"testing"

	"bole/api"
)

// W2, D1: while the power is out what asks the file system answers ErrDown, behind what the table asks; what doesn't ask it goes on.
func TestDown(t *testing.T) {
	b := four(t, 128, 1000)
	for fd := range 4 {
		b.does(seeks(fd, 10*fd, 0))
	}
	b.d.Crash(nil)
	before := b.steps()
	for fd := range 4 {
		b.refuses(api.ErrDown, stats(fd), seeks(fd, 0, 2), seeks(fd, -1<<40, 2), seeks(fd, 1<<40, 2))
		b.refuses(api.ErrInval, seeks(fd, 0, 3), seeks(fd, 0, -1), seeks(fd, -1, 0), seeks(fd, api.MaxFile+1, 0), seeks(fd, -10*fd-1, 1))
		b.at(fd, 10*fd)
	}
	b.refuses(api.ErrDown, reads(0, 0), reads(0, 5), reads(1, 16384), writes(0, ""), writes(0, "x"), writes(2, "x"), writes(3, ""), writes(3, "x"), cuts(0, 0), cuts(2, 1000), cuts(3, api.MaxFile+1))
	b.refuses(api.ErrInval, reads(0, -1), reads(1, 16385), writes(0, pattern(16385)), writes(2, pattern(16385)), cuts(0, -1))
	// How long the file is comes ahead of how many bytes they are.
	b.refuses(api.ErrDown, writes(3, pattern(16385)))
	b.refuses(api.ErrAccess, reads(2, 5), reads(3, -1), writes(1, "x"), cuts(1, -1))
	b.refuses(api.ErrDown, opens("/f", r), opens("/n", w|create), opens("/f", w|trunc), unlink("/f"), rename("/f", "/g"), rename("/g", "/f"), room(), lstat("/"), creates("/n"))
	b.refuses(api.ErrInval, unlink(""), unlink("/."), rename("", "/f"), rename("/f", ""), opens("", r), do(api.Call{}))
	b.tells(seeks(1, 77, 0), 77)
	b.tells(seeks(1, 3, 1), 80)
	b.tells(dups(1), 4)
	b.at(4, 80)
	if b.steps() != before {
		t.Errorf("W2: with the power out the disk has steps")
	}
}

// P21.3: a Close with the power out: of one of two numbers there is nothing to ask; of the last one ErrDown, and it is closed all the same.
func TestCloseDown(t *testing.T) {
	for _, gone := range []bool{false, true} {
		b := four(t, 128, 1000)
		b.opens(4, "/g", w|create)
		b.tells(dups(0), 5)
		if gone {
			b.does(unlink("/f"))
		}
		b.d.Crash(nil)
		for _, fd := range []int{0, 3, 1, 5} {
			b.gives(closes(fd), out{})
			b.refuses(api.ErrFd, ofNumber(fd)...)
		}
		b.refuses(api.ErrDown, closes(4), closes(2))
		b.refuses(api.ErrFd, closes(4), closes(2), stats(2))
		b.sameNumbers("all Closes", nil)
		c := opened(t, b.d.Image())
		c.right("a mount")
		c.holds("/g", "")
		if !gone {
			c.holds("/f", pattern(1000))
			c.free(24, 12)
		} else {
			c.refuses(api.ErrNone, lstat("/f"))
			c.free(26, 13)
		}
	}
}

// cutIn lets the power go at each step of a call, till the call has fewer, and mounts what is left: see looks at that.
func cutIn(t *testing.T, begin func() *desk, p op, see func(b *desk)) {
	t.Helper()
	for at := 1; ; at++ {
		for _, keep := range [][]bool{nil, {true}, {false, true, true}, {true, true, true, true, true, true, true, true}} {
			b := begin()
			b.d.Arm(api.Crash{At: at, Keep: keep})
			o := b.call(p)
			if !b.d.Down() {
				if o.e != api.OK || at < 5 {
					t.Errorf("%v: %v, and the power was to go at the step %d", p, o, at)
				}
				return
			}
			if !same(o, p.refusal(api.ErrDown)) {
				t.Errorf("W2: the power goes at the step %d of %v: %v", at, p, o)
			}
			c := opened(t, b.d.Image())
			c.right("a mount")
			see(c)
		}
	}
}

// P21.2: the power goes while Open cuts a file: no number is open, and the file is as it was or empty; a file that Open makes is there or it isn't.
func TestPowerGoesInOpen(t *testing.T) {
	seen := map[string]int{}
	there := func() *desk {
		b := fresh(t, 128)
		b.does(creates("/f"), writeTo("/f", 0, pattern(1000)))
		return b
	}
	for _, flags := range []int{w | trunc, rw | create | trunc, w | behind | trunc} {
		cutIn(t, there, opens("/f", flags), func(b *desk) {
			st := b.Do(lstat("/f").c).Stat
			switch st.Size {
			case 0:
				seen["empty"]++
			case 1000:
				b.holds("/f", pattern(1000))
				seen["whole"]++
			default:
				t.Errorf("P21.2: the power goes while a file is cut: its size is %d", st.Size)
			}
		})
	}
	cutIn(t, there, opens("/n", rw|create|trunc), func(b *desk) {
		b.holds("/f", pattern(1000))
		if b.Do(lstat("/n").c).Err == api.OK {
			b.free(24, 12)
			seen["made"]++
		} else {
			b.free(24, 13)
			seen["not made"]++
		}
	})
	for _, what := range []string{"empty", "whole", "made", "not made"} {
		if seen[what] == 0 {
			t.Errorf("%q came out of no power cut", what)
		}
	}
}

// P21.3, P21.9, P21.10: the power goes while a name goes, or while the last Close drops a file: behind a mount it is there with its name, or it is gone, and no orphan is left.
func TestPowerGoesInCloseAndUnlink(t *testing.T) {
	gone := func() *desk {
		b := grove(t)
		b.does(unlink("/a"))
		return b
	}
	cutIn(t, gone, closes(0), func(b *desk) {
		b.refuses(api.ErrNone, lstat("/a"))
		b.free(23, 12)
	})
	there := func() *desk { return grove(t) }
	seen := map[bool]int{}
	for _, p := range []op{unlink("/a"), rename("/c", "/a")} {
		cutIn(t, there, p, func(b *desk) {
			is := b.Do(lstat("/a").c).Stat.Inode == 2
			seen[is]++
			if is {
				b.holds("/a", pattern(1500))
				b.free(20, 11)
			} else {
				b.free(23, 12)
			}
		})
	}
	if seen[true] == 0 || seen[false] == 0 {
		t.Errorf("the name was there behind %d power cuts, and gone behind %d", seen[true], seen[false])
	}
}

// P21.6, P21.8, W2: the power goes in a Write or a Cut: the place stays (call holds that), and the file is as it was or as the call leaves it.
func TestPowerGoesInWrite(t *testing.T) {
	for _, p := range []op{writes(0, pattern(700)), writes(3, pattern(700)), writes(2, "x"), cuts(0, 5), cuts(3, 5000)} {
		begin := func() *desk {
			b := four(t, 128, 1000)
			b.does(seeks(0, 100, 0), seeks(2, 200, 0), seeks(3, 300, 0))
			return b
		}
		b := begin()
		b.does(p)
		before, after := pattern(1000), all(b.f, 2)
		seen := map[string]int{}
		cutIn(t, begin, p, func(b *desk) { seen[all(b.f, 2)]++ })
		if len(seen) != 2 || seen[before] == 0 || seen[after] == 0 {
			t.Errorf("P0.2: behind power cuts in %v a file was %d times as before, %d times as behind it; in all it was %d things", p, seen[before], seen[after], len(seen))
		}
	}
}
