package ram_test

import (
	"fmt"
	"math"
	"testing"

	"bole/api"
)

// files are the ways to one and the same file: by a path that leads to it, and by its number.
var files = map[string]struct {
	read  func(off, n int) op
	write func(off int, s string) op
	cut   func(n int) op
}{
	"path": {
		func(off, n int) op { return read("/f", off, n) },
		func(off int, s string) op { return write("/f", off, s) },
		func(n int) op { return truncate("/f", n) },
	},
	"link": {
		func(off, n int) op { return read("/s", off, n) },
		func(off int, s string) op { return write("/s", off, s) },
		func(n int) op { return truncate("/s", n) },
	},
	"number": {
		func(off, n int) op { return readAt(2, off, n) },
		func(off int, s string) op { return writeAt(2, off, s) },
		func(n int) op { return cutAt(2, n) },
	},
	"orphan": {
		func(off, n int) op { return readAt(4, off, n) },
		func(off int, s string) op { return writeAt(4, off, s) },
		func(n int) op { return cutAt(4, n) },
	},
}

// each does a test with a file by each of its ways; n is its number.
func each(t *testing.T, blocks int, do func(b *box, n int, way string)) {
	for way := range files {
		b := fresh(t, blocks)
		b.does(create("/f"), symlink("f", "/s"), create("/o"), unlinkAs("/o", true))
		do(b, map[string]int{"path": 2, "link": 2, "number": 2, "orphan": 4}[way], way)
	}
}

// reads holds what a read tells, by whatever way.
func (b *box) reads(p op, s string) {
	b.t.Helper()
	if p.name == "Do" {
		b.answers(p, api.Answer{N: len(s), Data: s})
	} else {
		b.gives(p, out{text: s})
	}
}

// file holds size, blocks and bytes of a file.
func (b *box) file(n, size, blocks int, s string) {
	b.t.Helper()
	st, e := b.StatAt(n)
	if st.Size != size || st.Blocks != blocks || e != api.OK {
		b.t.Errorf("P18.2: inode %d has %d bytes and %d blocks, %d, want %d and %d", n, st.Size, st.Blocks, e, size, blocks)
	}
	if got := all(b, n); got != s {
		b.t.Errorf("P18.2: inode %d has the bytes %.60q (%d), want %.60q (%d)", n, got, len(got), s, len(s))
	}
}

func zeros(n int) string { return rep("\x00", n) }

// P18.2: a Write gives a piece to each index in which a byte lies, and lays the bytes; Size becomes the end, if that is greater.
func TestWrite(t *testing.T) {
	each(t, 128, func(b *box, n int, way string) {
		f := files[way]
		b.does(f.write(3, "abc"))
		b.file(n, 6, 1, "\x00\x00\x00abc")
		b.does(f.write(1, "xyz"))
		b.file(n, 6, 1, "\x00xyzbc")
		// Across two pieces, of which the second one is new.
		b.does(f.write(510, "oak!"))
		b.file(n, 514, 2, "\x00xyzbc"+zeros(504)+"oak!")
		// Behind the end, two pieces further: a hole stands between.
		b.does(f.write(2048, "z"))
		b.file(n, 2049, 3, "\x00xyzbc"+zeros(504)+"oak!"+zeros(2048-514)+"z")
		// Into the hole.
		b.does(f.write(1024, rep("h", 512)))
		b.file(n, 2049, 4, "\x00xyzbc"+zeros(504)+"oak!"+zeros(510)+rep("h", 512)+zeros(512)+"z")
		b.free(26-1-4, 11)
	})
}

// P18.2: a Write of no bytes changes nothing, also at the end that a file may have; one behind it is ErrBig.
func TestWriteNothing(t *testing.T) {
	each(t, 128, func(b *box, n int, way string) {
		f := files[way]
		b.unchanged(f.write(0, ""), f.write(700, ""), f.write(8459264, ""))
		b.does(f.write(0, "abc"))
		b.unchanged(f.write(0, ""), f.write(2, ""), f.write(3, ""), f.write(5000, ""), f.write(8459264, ""))
		b.refuses(api.ErrBig, f.write(8459265, ""), f.write(math.MaxInt, ""))
		b.file(n, 3, 1, "abc")
	})
}

// P18.2: the last byte that a file may have, and one behind it.
func TestWriteFar(t *testing.T) {
	each(t, 128, func(b *box, n int, way string) {
		f := files[way]
		b.refuses(api.ErrBig, f.write(8459264, "x"), f.write(8459263, "xy"), f.write(8459264-16383, rep("x", 16384)), f.write(1<<40, "x"), f.write(math.MaxInt, "x"), f.write(math.MaxInt-1, "xy"), f.write(math.MaxInt-16383, rep("x", 16384)))
		b.does(f.write(8459263, "x"))
		st, _ := b.StatAt(n)
		if st.Size != 8459264 || st.Blocks != 3 {
			t.Errorf("P18.2: a file with its last byte: %+v", st)
		}
		b.reads(f.read(8459263, 5), "x")
		b.reads(f.read(8459264, 5), "")
		b.reads(f.read(8459264-16384, 16384), zeros(16383)+"x")
		b.does(f.write(8459264-1024, rep("y", 1024)))
		b.reads(f.read(8459264-1025, 2000), "\x00"+rep("y", 1024))
		if st, _ := b.StatAt(n); st.Blocks != 4 {
			t.Errorf("P18.2: a file with its last two indices: %+v", st)
		}
	})
}

// P18.2: MaxIO bytes in one call, and one more.
func TestMaxIO(t *testing.T) {
	each(t, 300, func(b *box, n int, way string) {
		f := files[way]
		s := ""
		for i := range 16384 / 8 {
			s += fmt.Sprintf("%8d", i)
		}
		b.refuses(api.ErrInval, f.write(0, s+"x"), f.write(1, rep("x", 100000)))
		b.does(f.write(100, s))
		b.file(n, 16484, 34, zeros(100)+s)
		b.reads(f.read(100, 16384), s)
		b.reads(f.read(0, 16384), zeros(100)+s[:16284])
		b.refuses(api.ErrInval, f.read(0, 16385), f.read(0, math.MaxInt), f.read(20000, 16385))
		b.does(f.write(0, s))
		b.file(n, 16484, 34, s+s[16284:])
	})
}

// P18.2: zeros that are written take a piece; what is never written takes none.
func TestZerosTakeAPiece(t *testing.T) {
	each(t, 128, func(b *box, n int, way string) {
		f := files[way]
		b.does(f.write(1024, zeros(512)))
		b.file(n, 1536, 1, zeros(1536))
		b.does(f.write(0, zeros(513)))
		b.file(n, 1536, 3, zeros(1536))
		b.does(f.cut(1025))
		b.file(n, 1025, 3, zeros(1025))
		b.does(f.cut(1024))
		b.file(n, 1024, 2, zeros(1024))
	})
}

// P18.2: what reads in holes, at the end, behind it, over all edges of pieces.
func TestRead(t *testing.T) {
	each(t, 128, func(b *box, n int, way string) {
		f := files[way]
		b.reads(f.read(0, 10), "")
		b.does(f.write(500, "0123456789abcdefghij"), f.write(1800, "tail"))
		want := zeros(500) + "0123456789abcdefghij" + zeros(1280) + "tail"
		for _, off := range []int{0, 1, 499, 500, 511, 512, 513, 519, 520, 1023, 1024, 1025, 1535, 1536, 1799, 1800, 1803, 1804, 1805, 2048, 100000, 1 << 32, 1 << 62, math.MaxInt - 512, math.MaxInt} {
			for _, n := range []int{0, 1, 2, 12, 511, 512, 513, 1024, 1300, 16383, 16384} {
				first := min(off, len(want))
				b.reads(f.read(off, n), want[first:min(first+n, len(want))])
			}
		}
		b.refuses(api.ErrInval, f.read(-1, 1), f.read(0, -1), f.read(-1, -1), f.read(math.MinInt, 1), f.read(0, math.MinInt))
	})
}

// P18.2: a Truncate to a smaller size within a piece and at its edge, to a greater one, to the same.
func TestTruncate(t *testing.T) {
	each(t, 128, func(b *box, n int, way string) {
		f := files[way]
		s := rep("0123456789abcdef", 100)
		b.does(f.write(0, s))
		b.file(n, 1600, 4, s)
		b.unchanged(f.cut(1600))
		b.does(f.cut(1537))
		b.file(n, 1537, 4, s[:1537])
		b.does(f.cut(1536))
		b.file(n, 1536, 3, s[:1536])
		b.does(f.cut(1535))
		b.file(n, 1535, 3, s[:1535])
		// What was behind is zeros when it comes again.
		b.does(f.cut(1600))
		b.file(n, 1600, 3, s[:1535]+zeros(65))
		b.does(f.cut(600), f.cut(1000))
		b.file(n, 1000, 2, s[:600]+zeros(400))
		b.does(f.cut(512))
		b.file(n, 512, 1, s[:512])
		b.does(f.cut(4000))
		b.file(n, 4000, 1, s[:512]+zeros(3488))
		b.unchanged(f.cut(4000))
		// In a hole.
		b.does(f.cut(3000), f.write(2999, "e"))
		b.file(n, 3000, 2, s[:512]+zeros(2487)+"e")
		b.does(f.cut(0))
		b.file(n, 0, 0, "")
		b.unchanged(f.cut(0))
		b.does(f.cut(100))
		b.file(n, 100, 0, zeros(100))
		b.does(f.cut(8459264))
		if st, _ := b.StatAt(n); st.Size != 8459264 || st.Blocks != 0 {
			t.Errorf("P18.2: %+v", st)
		}
		b.free(25, 11)
		b.refuses(api.ErrBig, f.cut(8459265), f.cut(math.MaxInt))
		b.refuses(api.ErrInval, f.cut(-1), f.cut(math.MinInt))
	})
}

// P18.2: a Truncate gives tables back with the last index behind them.
func TestTruncateTables(t *testing.T) {
	each(t, 128, func(b *box, n int, way string) {
		f := files[way]
		for _, k := range []int{0, 9, 10, 137, 138, 265, 266, 16521} {
			b.does(f.write(k*size, "x"))
		}
		for _, c := range []struct{ k, blocks int }{{16521, 11}, {267, 11}, {266, 9}, {265, 8}, {139, 8}, {138, 5}, {137, 4}, {11, 4}, {10, 2}, {9, 1}, {1, 1}, {0, 0}} {
			b.does(f.cut(c.k * size))
			if st, _ := b.StatAt(n); st.Blocks != c.blocks || st.Size != c.k*size {
				t.Errorf("P18.2: cut to %d indices: %+v, want %d blocks", c.k, st, c.blocks)
			}
			b.free(25-c.blocks, 11)
		}
	})
}

// P18.2: bytes behind the end are zeros, also where a Write begins behind it in the same piece.
func TestBehindTheEnd(t *testing.T) {
	each(t, 128, func(b *box, n int, way string) {
		f := files[way]
		b.does(f.write(0, rep("x", 400)), f.cut(100), f.write(300, "y"))
		b.file(n, 301, 1, rep("x", 100)+zeros(200)+"y")
		b.does(f.write(0, rep("z", 1500)), f.cut(700), f.write(1400, "y"))
		b.file(n, 1401, 3, rep("z", 700)+zeros(700)+"y")
	})
}

// P18.2: two names of a file are one; two files are two.
func TestOneFile(t *testing.T) {
	b := fresh(t, 128)
	b.does(create("/f"), link("/f", "/g"), create("/h"), write("/f", 0, "oak"), write("/h", 1, "elm"))
	b.holds("/g", "oak")
	b.does(write("/g", 3, "!"), truncate("/h", 2))
	b.holds("/f", "oak!")
	b.holds("/h", "\x00e")
	b.does(unlink("/f"))
	b.holds("/g", "oak!")
}

// P18.2: a file that is made where another one was has none of its bytes.
func TestNoOldBytes(t *testing.T) {
	b := fresh(t, 128)
	b.does(create("/f"), write("/f", 0, rep("x", 5000)), unlink("/f"), create("/g"), truncate("/g", 5000))
	b.holds("/g", zeros(5000))
	b.is("/g", 2, 1, 1, 5000, 0)
	b.does(write("/g", 100, "y"))
	b.holds("/g", zeros(100)+"y"+zeros(4899))
}

// P18.2: of each call of bytes what comes first where two or more are wrong.
func TestBytesOrder(t *testing.T) {
	b := fresh(t, 128)
	b.does(mkdir("/d"), create("/f"), symlink("d", "/s"), symlink("loop", "/loop"), symlink("gone", "/g"))
	b.leave(0)
	great := rep("x", 16385)
	// Numbers come first, whatever the path or inode is.
	for _, s := range []string{"", "x", "/\x00", rep("/x", 33), "/gone", "/f/x", "/loop", "/d", "/f"} {
		b.refuses(api.ErrInval, read(s, -1, 1), read(s, 0, -1), read(s, 0, 16385), write(s, -1, ""), write(s, -1, "x"), write(s, 0, great), write(s, 8459265, great), truncate(s, -1))
	}
	for _, n := range []int{-1, 0, 1, 2, 3, 4, 12, 15, 16, 1 << 32} {
		b.refuses(api.ErrInval, readAt(n, -1, 1), readAt(n, 0, -1), readAt(n, 0, 16385), writeAt(n, -1, ""), writeAt(n, 0, great), writeAt(n, 8459265, great), cutAt(n, -1))
	}
	calls := func(s string) []op {
		return []op{read(s, 8459265, 1), write(s, 8459265, ""), write(s, 8459264, "x"), truncate(s, 8459265)}
	}
	for s, e := range noPaths {
		b.refuses(e, calls(s)...)
	}
	b.refuses(api.ErrNone, calls("/gone")...)
	b.refuses(api.ErrNone, calls("/g")...)
	b.refuses(api.ErrNone, calls("/gone/f/x")...)
	b.refuses(api.ErrNotDir, calls("/f/gone")...)
	b.refuses(api.ErrLoop, calls("/loop")...)
	for _, s := range []string{"/", "/d", "/s", "/s/..", "/d/."} {
		b.refuses(api.ErrIsDir, calls(s)...)
	}
	b.refuses(api.ErrBig, calls("/f")[1:]...)
	b.refuses(api.ErrSpace, write("/f", 0, "x"), writeAt(3, 8459263, "x"))
	at := func(n int) []op {
		return []op{readAt(n, 8459265, 1), writeAt(n, 8459265, ""), writeAt(n, 8459264, "x"), cutAt(n, 8459265)}
	}
	for _, n := range append(noInodes(16), 9, 15) {
		b.refuses(api.ErrInode, at(n)...)
		b.refuses(api.ErrInode, statAt(n))
	}
	for _, n := range []int{1, 2} {
		b.refuses(api.ErrIsDir, at(n)...)
	}
	for _, n := range []int{4, 5, 6} {
		b.refuses(api.ErrInval, at(n)...)
	}
	b.refuses(api.ErrBig, at(3)[1:]...)
	b.gives(statAt(1), out{stat: b.Do(stat("/").c).Stat})
	b.gives(statAt(2), out{stat: b.Do(stat("/s").c).Stat})
	b.gives(statAt(4), out{stat: b.Do(lstat("/s").c).Stat})
}
