package vfs_test

import (
	"math"
	"testing"

	"bole/api"
)

// pattern is bytes of which no two blocks are the same.
func pattern(n int) string {
	b := make([]byte, n)
	for i := range b {
		b[i] = byte(1 + (i*7+i/512*13)%251)
	}
	return string(b)
}

// P20.3: reads ahead of the end, at it, behind it; of MaxIO bytes and one more; of holes.
func TestRead(t *testing.T) {
	b := fresh(t, 300)
	s := pattern(20000)
	b.does(create("/f"), create("/empty"), write("/f", 0, s[:16384]), write("/f", 16384, s[16384:]))
	for _, off := range []int{0, 1, 511, 512, 513, 3616, 3617, 5119, 5120, 16384, 19487, 19488, 19999, 20000, 20001, 70656, 8459263, 8459264, 8459265, 1 << 31, 1 << 32, 1 << 62, math.MaxInt - 512, math.MaxInt} {
		for _, n := range []int{0, 1, 511, 512, 513, 1024, 16383, 16384} {
			first := min(off, len(s))
			want := s[first : first+min(n, len(s)-first)]
			b.answers(read("/f", off, n), api.Answer{N: len(want), Data: want})
			b.gives(readAt(2, off, n), out{text: want})
			b.answers(read("/empty", off, n), api.Answer{})
			b.gives(readAt(3, off, n), out{})
		}
	}
	for _, n := range []int{-1, math.MinInt, 16385, 1 << 32, math.MaxInt} {
		b.refuses(api.ErrInval, read("/f", 0, n), readAt(2, 0, n), read("/f", -1, n))
	}
	for _, off := range []int{-1, -512, math.MinInt} {
		b.refuses(api.ErrInval, read("/f", off, 0), read("/f", off, 10), readAt(2, off, 10))
	}
}

// P20.3: holes read as zeros, whatever the blocks held that the disk has.
func TestHoles(t *testing.T) {
	b := fresh(t, 128)
	b.does(create("/old"), write("/old", 0, pattern(8000)), unlink("/old"))
	b.does(create("/f"), write("/f", 3000, "x"))
	b.holds("/f", zeros(3000)+"x")
	b.is("/f", 2, 1, 1, 3001, 1)
	b.does(write("/f", 70656, "y"))
	b.is("/f", 2, 1, 1, 70657, 4)
	b.holds("/f", zeros(3000)+"x"+zeros(67655)+"y")
	b.does(truncate("/f", 8459264))
	b.answers(read("/f", 8459264-16384, 16384), api.Answer{N: 16384, Data: zeros(16384)})
	b.answers(read("/f", 70000, 1000), api.Answer{N: 1000, Data: zeros(656) + "y" + zeros(343)})
	b.does(write("/f", 1024, zeros(1024)))
	b.is("/f", 2, 1, 1, 8459264, 6)
}

// P20.3: writes of no bytes, within, at the end, behind it, over it; N is how many bytes there are.
func TestWrite(t *testing.T) {
	for _, by := range []bool{false, true} {
		b := fresh(t, 300)
		b.does(create("/f"))
		put := func(off int, s string) {
			t.Helper()
			if by {
				b.gives(writeAt(2, off, s), out{})
			} else {
				b.makes(write("/f", off, s), len(s))
			}
		}
		want := ""
		for _, c := range []struct {
			off int
			s   string
		}{
			{0, ""}, {700, ""}, {0, "abc"}, {3, "def"}, {2, "XY"}, {5, "tail"}, {600, "hole"}, {511, "ab"}, {512, pattern(512)}, {0, pattern(1024)}, {300, pattern(3000)},
			{3300, "!"}, {0, pattern(16384)}, {16384, pattern(16384)}, {100, zeros(1000)}, {16383, pattern(600)}, {32768, ""}, {40000, "x"},
		} {
			put(c.off, c.s)
			if c.s != "" {
				want += zeros(max(0, c.off+len(c.s)-len(want)))
				want = want[:c.off] + c.s + want[c.off+len(c.s):]
			}
			b.holds("/f", want)
			if st := b.Do(stat("/f").c).Stat; st.Size != len(want) {
				t.Errorf("P20.3: behind a write at %d the size is %d, want %d", c.off, st.Size, len(want))
			}
		}
		b.right("writes")
	}
}

// P20.3: writes up to MaxFile and one more, offsets near the greatest int.
func TestWriteFar(t *testing.T) {
	b := fresh(t, 300)
	b.does(create("/f"))
	b.makes(write("/f", 8459264-16384, pattern(16384)), 16384)
	b.is("/f", 2, 1, 1, 8459264, 34)
	b.makes(write("/f", 8459263, "z"), 1)
	b.gives(writeAt(2, 8459263, "z"), out{})
	b.unchanged(writeAt(2, 8459264, ""), writeAt(2, 0, ""))
	b.makes(write("/f", 8459264, ""), 0)
	for _, c := range []struct {
		off int
		s   string
	}{
		{8459264, "x"}, {8459263, "xy"}, {8459264 - 16383, pattern(16384)}, {8459265, ""}, {1 << 31, "x"}, {1 << 32, ""}, {1 << 62, "x"}, {math.MaxInt, ""}, {math.MaxInt, "x"}, {math.MaxInt, "xy"},
		{math.MaxInt - 1, "x"}, {math.MaxInt - 1, "xy"}, {math.MaxInt - 16384, pattern(16384)}, {math.MaxInt - 16383, pattern(16384)}, {math.MaxInt - 8459264, pattern(16384)},
	} {
		b.refuses(api.ErrBig, write("/f", c.off, c.s), writeAt(2, c.off, c.s))
	}
	for _, off := range []int{-1, -512, math.MinInt, math.MinInt + 1} {
		for _, s := range []string{"", "x", pattern(16385)} {
			b.refuses(api.ErrInval, write("/f", off, s), writeAt(2, off, s))
		}
	}
	for _, off := range []int{0, 8459264, math.MaxInt} {
		b.refuses(api.ErrInval, write("/f", off, pattern(16385)), writeAt(2, off, pattern(20000)))
	}
	b.right("writes up to the end")
}

// P20.3: truncate up and down, within a block, to 0, to the size that it has, to MaxFile and one more.
func TestTruncate(t *testing.T) {
	for _, by := range []bool{false, true} {
		b := fresh(t, 300)
		cut := func(n int) op {
			if by {
				return cutAt(2, n)
			}
			return truncate("/f", n)
		}
		b.does(create("/f"), write("/f", 0, pattern(16384)))
		want := pattern(16384)
		for _, n := range []int{16384, 16000, 16384, 12345, 12345, 5121, 5120, 5119, 6000, 1024, 1023, 2000, 1, 0, 0, 10, 600, 3} {
			before := steps(b.d)
			b.gives(cut(n), out{})
			if n == len(want) && steps(b.d) != before {
				t.Errorf("D9: truncate to the size that it has, %d, has a step", n)
			}
			if n != len(want) && steps(b.d) == before {
				t.Errorf("P20.3: truncate to %d has no step", n)
			}
			want = (want + zeros(20000))[:n]
			b.holds("/f", want)
			b.right("a truncate")
		}
		b.does(cut(0))
		b.is("/f", 2, 1, 1, 0, 0)
		b.does(cut(8459264))
		b.is("/f", 2, 1, 1, 8459264, 0)
		b.unchanged(cut(8459264))
		b.refuses(api.ErrBig, cut(8459265), cut(1<<31), cut(1<<32), cut(math.MaxInt))
		b.refuses(api.ErrInval, cut(-1), cut(math.MinInt))
		b.does(cut(8459263), write("/f", 8459000, "x"), cut(8459001), cut(8459000), cut(70656))
		b.is("/f", 2, 1, 1, 70656, 0)
		b.free(300-(98+1+4)-1, 29)
	}
}

// P20.3: what was cut off is not seen when the file grows again.
func TestCutIsGone(t *testing.T) {
	b := fresh(t, 128)
	b.does(create("/f"), write("/f", 0, pattern(1500)), truncate("/f", 700), truncate("/f", 1500))
	b.holds("/f", pattern(700)+zeros(800))
	b.does(truncate("/f", 100), write("/f", 400, "x"))
	b.holds("/f", pattern(100)+zeros(300)+"x")
}

// P20.3: calls of bytes go through symbolic links, also one at the end; to a directory, to nothing, to themselves.
func TestBytesThroughLinks(t *testing.T) {
	b := wood(t, 128)
	b.does(symlink("/d/s", "/deep"), symlink("nowhere", "/dead"), symlink("loop", "/loop"), symlink("/l", "/ll"))
	b.makes(write("/deep", 0, "through"), 7)
	b.answers(read("/l/s", 0, 7), api.Answer{N: 7, Data: "through"})
	b.does(truncate("/deep", 7))
	b.holds("/f", "through")
	for s, e := range map[string]api.Errno{"/dead": api.ErrNone, "/loop": api.ErrLoop, "/ll": api.ErrIsDir, "/l": api.ErrIsDir, "/": api.ErrIsDir, "/d/..": api.ErrIsDir, "/f/x": api.ErrNotDir, "/deep/x": api.ErrNotDir} {
		b.refuses(e, read(s, 0, 1), write(s, 0, "x"), write(s, 0, ""), truncate(s, 0))
	}
}
