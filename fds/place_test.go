package fds_test

import (
	"fmt"
	"math"
	"math/big"
	"testing"

	"bole/api"
)

// four is a table whose number 0 may read and write a file of so many bytes, 1 may read it alone, 2 may write it alone, 3 writes behind its end.
func four(t *testing.T, blocks, n int) *desk {
	t.Helper()
	b := fresh(t, blocks)
	b.does(creates("/f"))
	for off := 0; off < n; off += api.MaxIO {
		b.does(writeTo("/f", off, pattern(n)[off:min(n, off+api.MaxIO)]))
	}
	b.opens(0, "/f", rw)
	b.opens(1, "/f", r)
	b.opens(2, "/f", w)
	b.opens(3, "/f", w|behind)
	return b
}

// P21.5: the bytes from the place on, up to the end, and the place behind them.
func TestRead(t *testing.T) {
	n := 40000
	b := four(t, 300, n)
	text := pattern(n)
	for _, size := range []int{0, 1, 511, 512, 513, 16383, 16384, 0, 1} {
		for _, fd := range []int{0, 1} {
			place, _ := b.Seek(fd, 0, api.FromHere)
			end := min(n, place+size)
			b.reads(fd, size, text[place:end])
			b.at(fd, end)
		}
	}
	// At the end, across it and behind it: what there is, and the place stays where there is nothing.
	for _, place := range []int{n - 16384, n - 16383, n - 1, n, n + 1, n + 16384, api.MaxFile - 1, api.MaxFile} {
		b.does(seeks(1, place, 0))
		end := max(place, min(n, place+16384))
		b.reads(1, 0, "")
		b.at(1, place)
		b.reads(1, 16384, text[min(place, n):min(end, n)])
		b.at(1, end)
		b.reads(1, 16384, text[min(end, n):])
	}
	b.closesAll()
}

// P21.5, W2: how many bytes may be asked for; where it is refused the place stays.
func TestReadIsRefused(t *testing.T) {
	b := four(t, 128, 1000)
	for _, place := range []int{0, 7, 1000, 5000, api.MaxFile} {
		b.does(seeks(0, place, 0), seeks(1, place, 0), seeks(2, place, 0))
		for _, n := range []int{-1, -2, -16384, math.MinInt, 16385, 16386, 1 << 32, 1<<32 + 1, math.MaxInt} {
			b.refuses(api.ErrInval, reads(0, n), reads(1, n))
			b.refuses(api.ErrAccess, reads(2, n), reads(3, n))
		}
		b.refuses(api.ErrAccess, reads(2, 0), reads(2, 1), reads(2, 16384), reads(3, 0), reads(3, 1))
		for _, fd := range []int{0, 1, 2} {
			b.at(fd, place)
		}
	}
	b.at(3, 0)
}

// P21.6: bytes at the place, and the place behind them: over others, across the end, behind it.
func TestWrite(t *testing.T) {
	b := four(t, 128, 1000)
	text := []byte(pattern(1000))
	for _, c := range []struct {
		fd, place int
		s         string
	}{
		{0, 0, "first"}, {2, 500, pattern(30)}, {0, 999, "across"}, {2, 1005, "at the end"}, {0, 1500, "behind"}, {2, 5115, rep("x", 20)}, {0, 5119, pattern(4096)}, {0, 3, ""}, {2, 9215, ""}, {0, 9999, ""}, {2, 511, "ab"},
	} {
		b.does(seeks(c.fd, c.place, 0))
		b.tells(writes(c.fd, c.s), len(c.s))
		b.at(c.fd, c.place+len(c.s))
		if end := c.place + len(c.s); len(c.s) > 0 && end > len(text) {
			text = append(text, make([]byte, end-len(text))...)
		}
		if len(c.s) > 0 {
			copy(text[c.place:], c.s)
		}
		b.holds("/f", string(text))
	}
	b.at(1, 0)
	b.at(3, 0)
	b.closesAll()
}

// P21.6: two writes one behind the other lie one behind the other.
func TestWritesInARow(t *testing.T) {
	b := fresh(t, 300)
	b.opens(0, "/f", rw|create)
	s := pattern(60000)
	for i, at := 0, 0; at < len(s); i++ {
		n := min([]int{1, 16384, 511, 0, 512, 513, 9999}[i%7], len(s)-at)
		b.tells(writes(0, s[at:at+n]), n)
		at += n
		b.at(0, at)
	}
	b.holds("/f", s)
	b.closesAll()
}

// P21.6: up to MaxIO bytes at once, up to MaxFile, and one more of each.
func TestWriteLimits(t *testing.T) {
	b := four(t, 300, 10)
	b.does(seeks(0, 5, 0))
	b.refuses(api.ErrInval, writes(0, pattern(16385)), writes(0, pattern(40000)), writes(2, pattern(16385)), writes(3, pattern(16385)))
	b.refuses(api.ErrAccess, writes(1, pattern(16385)), writes(1, ""), writes(1, "x"))
	b.at(0, 5)
	b.at(3, 0)
	b.tells(writes(0, pattern(16384)), 16384)
	b.at(0, 16389)
	b.is(0, 2, 1, 16389, 34)

	// MaxIO is asked ahead of MaxFile.
	b.does(seeks(0, api.MaxFile, 0))
	b.refuses(api.ErrInval, writes(0, pattern(16385)))
	b.refuses(api.ErrBig, writes(0, "x"), writes(0, pattern(16384)))
	b.tells(writes(0, ""), 0)
	b.at(0, api.MaxFile)
	b.does(seeks(0, -3, 1))
	b.refuses(api.ErrBig, writes(0, "abcd"))
	b.at(0, api.MaxFile-3)
	b.is(0, 2, 1, 16389, 34)
	b.tells(writes(0, "abc"), 3)
	b.at(0, api.MaxFile)
	b.reads(0, 5, "")
	b.does(seeks(0, -4, api.FromEnd))
	b.reads(0, 16384, "\x00abc")
	b.is(0, 2, 1, api.MaxFile, 37)

	// Behind the end of a file that is as long as may be there is no place to write at.
	b.refuses(api.ErrBig, writes(3, "x"))
	b.at(3, 0)
	b.tells(writes(3, ""), 0)
	b.at(3, api.MaxFile)
	b.closesAll()
}

// P21.6, W2: where there is no room the place stays, and so does the file.
func TestWriteWithoutRoom(t *testing.T) {
	b := four(t, 128, 1000)
	for _, fd := range []int{0, 2} {
		b.does(seeks(fd, 700, 0))
		b.refuses(api.ErrSpace, writes(fd, pattern(16384)))
		b.at(fd, 700)
	}
	b.refuses(api.ErrSpace, writes(3, pattern(16384)))
	b.at(3, 0)
	b.does(seeks(0, 5000000, 0))
	b.opens(4, "/g", w|create)
	for k := 0; b.Do(room().c).Room.FreeBlocks > 0; k++ {
		b.does(seeks(4, k*size, 0), writes(4, "x"))
	}
	b.refuses(api.ErrSpace, writes(0, "x"))
	b.at(0, 5000000)
	b.holds("/f", pattern(1000))
	// What it has already is no want.
	b.tells(seeks(0, 990, 0), 990)
	b.tells(writes(0, rep("y", 34)), 34)
	b.refuses(api.ErrSpace, writes(0, "z"))
	b.at(0, 1024)
	b.tells(writes(0, ""), 0)
	b.is(0, 2, 1, 1024, 2)
	b.closesAll()
}

// P21.6: with AppendFlag each writing is at the end, wherever the place is, and behind what others have written.
func TestAppend(t *testing.T) {
	b := four(t, 128, 10)
	b.tells(writes(3, "one"), 3)
	b.at(3, 13)
	b.does(seeks(0, 0, api.FromEnd))
	b.tells(writes(0, "two"), 3)
	b.at(3, 13)
	b.tells(writes(3, "three"), 5)
	b.at(3, 21)
	b.holds("/f", pattern(10)+"onetwothree")
	b.at(0, 16)

	// Of no bytes the place is at the end all the same.
	b.does(seeks(3, 4, 0))
	b.tells(writes(3, ""), 0)
	b.at(3, 21)
	b.does(seeks(3, 5000, 0))
	b.tells(writes(3, ""), 0)
	b.at(3, 21)
	b.is(3, 2, 1, 21, 1)
	// Without it the place stays.
	b.does(seeks(0, 4, 0))
	b.tells(writes(0, ""), 0)
	b.at(0, 4)

	// Two of them take turns; one is cut in between.
	b.opens(4, "/f", rw|behind)
	b.tells(writes(4, "A"), 1)
	b.tells(writes(3, "B"), 1)
	b.at(4, 22)
	b.does(cuts(2, 2))
	b.tells(writes(4, "C"), 1)
	b.at(4, 3)
	b.holds("/f", pattern(2)+"C")
	b.does(cuts(0, 600))
	b.tells(writes(3, "D"), 1)
	b.at(3, 601)
	b.holds("/f", pattern(2)+"C"+zeros(597)+"D")
	// It is read at its place.
	b.does(seeks(4, 1, 0))
	b.reads(4, 2, pattern(2)[1:]+"C")
	b.tells(writes(4, "E"), 1)
	b.reads(4, 9, "")
	b.at(4, 602)
	// And a Dup of it is as it is.
	b.does(seeks(3, 0, 0))
	b.tells(dups(3), 5)
	b.tells(writes(5, "F"), 1)
	b.at(3, 603)
	b.closesAll()
}

// farOffs are offsets near the greatest and the least int.
func farOffs() []int {
	return []int{
		math.MinInt, math.MinInt + 1, math.MinInt + 1000, math.MinInt + api.MaxFile, -1 << 62, -1 << 32, -api.MaxFile - 1, -api.MaxFile,
		api.MaxFile, api.MaxFile + 1, 1 << 32, 1 << 62, math.MaxInt - api.MaxFile, math.MaxInt - 1000, math.MaxInt - 1, math.MaxInt,
	}
}

// P21.7: the new place is off together with where it begins, as whole numbers, from 0 to MaxFile.
func TestSeek(t *testing.T) {
	for _, length := range []int{0, 1, 1000, api.MaxFile} {
		b := four(t, 128, min(length, 1000))
		b.does(cuts(0, length))
		for _, place := range []int{0, 1, 999, 1000, 1001, api.MaxFile - 1, api.MaxFile} {
			offs := append(farOffs(), -1, 0, 1, -place, -place-1, api.MaxFile-place, api.MaxFile-place+1, -length, -length-1, api.MaxFile-length, api.MaxFile-length+1)
			for whence, from := range []int{0, place, length} {
				for _, off := range offs {
					for fd := range 4 {
						b.tells(seeks(fd, place, api.FromStart), place)
						b.seeks(fd, off, whence, from)
					}
				}
			}
		}
		b.is(0, 2, 1, length, b.f.Do(lstat("/f").c).Stat.Blocks)
		b.closesAll()
	}
}

// seeks holds a Seek against sums of whole numbers; where it is refused the place stays.
func (b *desk) seeks(fd, off, whence, from int) {
	b.t.Helper()
	was, _ := b.Seek(fd, 0, api.FromHere)
	sum := new(big.Int).Add(big.NewInt(int64(off)), big.NewInt(int64(from)))
	if sum.Sign() < 0 || sum.Cmp(big.NewInt(api.MaxFile)) > 0 {
		b.refuses(api.ErrInval, seeks(fd, off, whence))
		b.at(fd, was)
		return
	}
	b.tells(seeks(fd, off, whence), int(sum.Int64()))
	b.at(fd, int(sum.Int64()))
}

// P21.7: whence is one of three.
func TestWhence(t *testing.T) {
	b := four(t, 128, 1000)
	b.does(seeks(0, 7, 0), seeks(1, 8, 0))
	for _, whence := range []int{math.MinInt, -1 << 32, -3, -2, -1, 3, 4, 255, 256, 1 << 32, 1<<32 + 1, 1<<32 + 2, math.MaxInt} {
		for _, off := range []int{0, 1, -1, api.MaxFile, math.MinInt, math.MaxInt} {
			b.refuses(api.ErrInval, seeks(0, off, whence), seeks(1, off, whence))
		}
	}
	b.at(0, 7)
	b.at(1, 8)
}

// P21.7: from the end is from where it is by now; behind it a Read tells nothing, and a Write makes a hole ahead.
func TestSeekBehindTheEnd(t *testing.T) {
	b := four(t, 128, 1000)
	b.tells(seeks(1, 0, api.FromEnd), 1000)
	b.tells(seeks(0, 5000, api.FromEnd), 6000)
	b.is(0, 2, 1, 1000, 2)
	b.reads(0, 100, "")
	b.at(0, 6000)
	b.tells(writes(0, "far"), 3)
	b.is(0, 2, 1, 6003, 4)
	b.tells(seeks(1, -4, api.FromEnd), 5999)
	b.reads(1, 9, "\x00far")
	b.does(seeks(1, 1000, 0))
	b.reads(1, 5000, zeros(5000))
	b.does(cuts(2, 10))
	b.tells(seeks(1, -1, api.FromEnd), 9)
	b.reads(1, 5, pattern(10)[9:])
	b.closesAll()
}

// P21.8: Cut sets the size, shorter and longer; the place stays, of each number.
func TestCut(t *testing.T) {
	b := four(t, 128, 1000)
	for fd := range 4 {
		b.does(seeks(fd, 300*(fd+1), 0))
	}
	text := pattern(1000)
	for _, n := range []int{1000, 999, 513, 512, 511, 1, 0, 0, 1, 512, 700, 6000, api.MaxFile - 1, api.MaxFile, 400, 0} {
		for _, fd := range []int{0, 2, 3} {
			b.gives(cuts(fd, n), out{})
			if n < len(text) {
				text = text[:n]
			}
			if st, e := b.Stat(1); e != api.OK || st.Size != n || st.Links != 1 {
				t.Errorf("P21.8: behind Cut(%d, %d) Stat is %+v, %d", fd, n, st, e)
			}
		}
		for fd := range 4 {
			b.at(fd, 300*(fd+1))
		}
		if n <= 6000 {
			b.holds("/f", text+zeros(n-len(text)))
			text += zeros(n - len(text))
		}
	}
	b.free(26, 13)
	// A file that was cut is read up to its new end, and written behind it.
	b.does(cuts(0, 310))
	b.does(seeks(0, 300, 0))
	b.reads(0, 100, zeros(10))
	b.does(cuts(0, 5), writes(0, "x"))
	b.is(0, 2, 1, 311, 1)
	b.at(0, 311)
	b.closesAll()
}

// P21.8, W2: which sizes may be.
func TestCutIsRefused(t *testing.T) {
	b := four(t, 128, 1000)
	for _, n := range []int{-1, -2, -1 << 32, math.MinInt} {
		b.refuses(api.ErrInval, cuts(0, n), cuts(2, n), cuts(3, n))
		b.refuses(api.ErrAccess, cuts(1, n))
	}
	for _, n := range []int{api.MaxFile + 1, 1 << 32, math.MaxInt} {
		b.refuses(api.ErrBig, cuts(0, n), cuts(2, n), cuts(3, n))
		b.refuses(api.ErrAccess, cuts(1, n))
	}
	b.refuses(api.ErrAccess, cuts(1, 0), cuts(1, 1000), cuts(1, api.MaxFile))
	b.holds("/f", pattern(1000))
}

// P21.8: Stat of each number, whatever its flags are, of a file with one name, with several, and without one.
func TestStat(t *testing.T) {
	b := four(t, 128, 1000)
	held := func(links, size, blocks int) {
		t.Helper()
		for fd := range 4 {
			b.is(fd, 2, links, size, blocks)
		}
	}
	held(1, 1000, 2)
	b.does(link("/f", "/g"))
	held(2, 1000, 2)
	b.does(writes(3, "x"), cuts(0, 600))
	held(2, 600, 2)
	b.does(rename("/f", "/h"))
	held(2, 600, 2)
	b.does(unlink("/h"))
	held(1, 600, 2)
	b.does(unlink("/g"))
	held(0, 600, 2)
	b.does(writes(3, pattern(5000)))
	held(0, 5600, 12)
	b.does(cuts(2, 0))
	held(0, 0, 0)
	b.closesAll()
}

// 'An open file': two Opens of one name have places and flags of their own, Dups share one; all see one another's bytes at once.
func TestPlaces(t *testing.T) {
	b := fresh(t, 128)
	b.opens(0, "/f", rw|create)
	b.opens(1, "/f", r)
	b.tells(dups(0), 2)
	b.tells(dups(2), 3)
	b.tells(dups(1), 4)
	b.does(writes(0, "0123456789"))
	for _, fd := range []int{0, 2, 3} {
		b.at(fd, 10)
	}
	b.reads(4, 3, "012")
	b.reads(1, 3, "345")
	b.at(4, 6)
	b.does(seeks(3, 2, 0), writes(2, "ab"))
	b.at(0, 4)
	b.reads(0, 1, "4")
	b.does(seeks(4, 2, 0))
	b.reads(1, 3, "ab4")
	b.refuses(api.ErrAccess, writes(4, "x"), writes(1, "x"), cuts(4, 0))
	b.at(2, 5)
	// Closes of some leave the others where they are.
	b.does(closes(0), closes(4))
	b.at(2, 5)
	b.at(3, 5)
	b.at(1, 5)
	b.opens(0, "/f", rw)
	b.tells(dups(3), 4)
	b.at(0, 0)
	b.at(4, 5)
	b.reads(0, 4, "01ab")
	b.at(3, 5)
	b.does(closes(2), closes(3))
	b.reads(4, 9, "56789")
	b.at(0, 4)
	b.closesAll()
}

// P21.3, P21.4, 'A number': what isn't open is refused ahead of all else, of every number from below 0 to far ones.
func TestNotOpen(t *testing.T) {
	b := fresh(t, 128)
	b.does(creates("/f"))
	for fd := range 16 {
		b.refuses(api.ErrFd, ofNumber(fd)...)
	}
	for _, fd := range noNumbers() {
		b.refuses(api.ErrFd, ofNumber(fd)...)
	}
	for fd := range 16 {
		b.opens(fd, "/f", r)
		if fd < 15 {
			b.refuses(api.ErrFd, ofNumber(fd+1)...)
		}
	}
	// With sixteen open ErrFd is ahead of ErrFds too.
	for _, fd := range noNumbers() {
		b.refuses(api.ErrFd, ofNumber(fd)...)
	}
	for fd := range 16 {
		b.refuses(api.ErrFds, dups(fd))
		b.reads(fd, 5, "")
		b.refuses(api.ErrAccess, writes(fd, "x"))
	}
	for _, fd := range []int{15, 0, 7} {
		b.does(closes(fd))
		b.refuses(api.ErrFd, ofNumber(fd)...)
	}
	b.d.Crash(nil)
	for _, fd := range append(noNumbers(), 15, 0, 7) {
		b.refuses(api.ErrFd, ofNumber(fd)...)
	}
}

// P21.4: a Dup is of the same open file, to the last of sixteen.
func TestDups(t *testing.T) {
	b := fresh(t, 128)
	b.opens(0, "/f", rw|create)
	for fd := 1; fd < 16; fd++ {
		b.tells(dups(fd/2), fd)
	}
	for fd := range 16 {
		b.tells(writes(fd, fmt.Sprint(fd%10)), 1)
		b.at(15-fd, fd+1)
	}
	b.holds("/f", "0123456789012345")
	b.does(unlink("/f"))
	for fd := range 15 {
		b.does(closes(fd))
		b.is(15, 2, 0, 16, 1)
	}
	b.tells(seeks(15, -2, 1), 14)
	b.tells(dups(15), 0)
	b.does(closes(15))
	b.reads(0, 9, "45")
	b.free(25, 13)
	b.does(closes(0))
	b.free(26, 14)
	b.right("the last Close")
}
