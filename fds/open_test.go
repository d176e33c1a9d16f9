package fds_test

import (
	"fmt"
	"math"
	"math/rand"
	"slices"
	"testing"

	"bole/api"
)

// mayBe is what the chapter says of flags, bit by bit.
func mayBe(flags int) bool {
	if flags < 0 || flags > 63 {
		return false
	}
	digits := fmt.Sprintf("%06b", flags)
	appends, truncates, writes, reads := digits[0] == '1', digits[1] == '1', digits[4] == '1', digits[5] == '1'
	return (reads || writes) && (writes || !truncates) && (writes || !appends)
}

// farFlags are none that may be, but in their lower bits.
func farFlags() []int {
	return []int{
		math.MinInt, math.MinInt + 3, -1 << 32, -1<<32 + 1, -64, -63, -62, -61, -4, -3, -2, -1, 64, 65, 66, 67, 64 + 7, 127, 128 + 3, 1<<8 + 1, 1<<16 + 2, 1 << 32, 1<<32 + 3, 1<<62 + 3, math.MaxInt - 1, math.MaxInt,
	}
}

// P21.2, 'Flags': each of the flags by itself, of a file that is there: which may be, and what each of them means for the open file.
func TestFlags(t *testing.T) {
	count := 0
	for flags := -1; flags <= 64; flags++ {
		b := fresh(t, 128)
		b.does(creates("/f"), writeTo("/f", 0, "0123456789"))
		switch {
		case !mayBe(flags):
			b.refuses(api.ErrInval, opens("/f", flags), opens("/new", flags), opens("/", flags), opens("/x/y", flags), opens("/"+rep("x", 28), flags))
			b.holds("/f", "0123456789")
			continue
		case flags&create != 0 && flags&excl != 0:
			b.refuses(api.ErrExist, opens("/f", flags))
			b.holds("/f", "0123456789")
			count++
			continue
		}
		count++
		b.opens(0, "/f", flags)
		b.at(0, 0)
		b.behaves(flags)
		b.closesAll()
	}
	if count != 36 {
		t.Errorf("'Flags': %d may be, want 36", count)
	}
	for _, flags := range farFlags() {
		b := fresh(t, 128)
		b.does(creates("/f"), writeTo("/f", 0, "0123456789"))
		b.refuses(api.ErrInval, opens("/f", flags), opens("/new", flags), opens("/", flags), opens("", flags))
		b.holds("/f", "0123456789")
		b.refuses(api.ErrNone, lstat("/new"))
	}
}

// behaves holds what the number 0 may do, which was opened with these flags on ten bytes, and that a Dup of it has the same flags.
func (b *desk) behaves(flags int) {
	b.t.Helper()
	data := "0123456789"
	if flags&trunc != 0 {
		data = ""
	}
	b.holds("/f", data)
	b.tells(dups(0), 1)
	for _, fd := range []int{0, 1} {
		b.does(seeks(0, 0, 0))
		if flags&r != 0 {
			b.reads(fd, 4, data[:min(4, len(data))])
		} else {
			b.refuses(api.ErrAccess, reads(fd, 4), reads(fd, 0), reads(fd, -1), reads(fd, 16385))
		}
	}
	for _, fd := range []int{1, 0} {
		b.does(seeks(0, 2, 0))
		if flags&w == 0 {
			b.refuses(api.ErrAccess, writes(fd, "x"), writes(fd, ""), writes(fd, rep("x", 16385)), cuts(fd, 0), cuts(fd, -1), cuts(fd, 8459265))
			continue
		}
		b.tells(writes(fd, "x"), 1)
		switch {
		case flags&behind != 0:
			data += "x"
			b.at(fd, len(data))
		case len(data) > 2:
			data = data[:2] + "x" + data[3:]
			b.at(fd, 3)
		default:
			data = "\x00\x00x"
			b.at(fd, 3)
		}
		b.holds("/f", data)
	}
	if flags&w != 0 {
		b.does(cuts(1, 5))
		b.holds("/f", (data + zeros(5))[:5])
	}
}

// P21.2: each of the flags, of a name that isn't there.
func TestFlagsOfNew(t *testing.T) {
	for flags := range 64 {
		b := fresh(t, 128)
		switch {
		case !mayBe(flags):
			b.refuses(api.ErrInval, opens("/n", flags))
			b.free(27, 14)
		case flags&create == 0:
			b.refuses(api.ErrNone, opens("/n", flags))
			b.free(27, 14)
		default:
			b.opens(0, "/n", flags)
			b.is(0, 2, 1, 0, 0)
			b.at(0, 0)
			b.free(26, 13)
		}
		b.closesAll()
	}
}

// wood is a file system with a few names of each kind; nothing is open.
func wood(t *testing.T) *desk {
	t.Helper()
	b := fresh(t, 128)
	b.does(creates("/f"), writeTo("/f", 0, pattern(1200)), mkdir("/d"), creates("/d/g"), writeTo("/d/g", 600, "g"), symlink("d/g", "/l"), symlink("d", "/m"), symlink("gone", "/s"), symlink("loop", "/loop"), link("/f", "/d/h"))
	return b
}

// P21.2: what Open answers is what the file system answers, with and without create and excl: of a name that is there, that isn't, of symbolic links, of the root, of what can't be walked.
func TestOpenOfNames(t *testing.T) {
	for _, c := range []struct {
		s                        string
		plain, made, madeAlone   api.Errno
		inode, afterMade, places int // places: how many inodes are free behind Open with create
	}{
		{"/f", api.OK, api.OK, api.ErrExist, 2, 2, 7},
		{"//f/", api.OK, api.OK, api.ErrExist, 2, 2, 7},
		{"/d/h", api.OK, api.OK, api.ErrExist, 2, 2, 7},
		{"/m/h", api.OK, api.OK, api.ErrExist, 2, 2, 7},
		{"/d/g", api.OK, api.OK, api.ErrExist, 4, 4, 7},
		{"/l", api.OK, api.OK, api.ErrExist, 4, 4, 7},
		{"/n", api.ErrNone, api.OK, api.OK, 0, 9, 6},
		{"/d/../m/n", api.ErrNone, api.OK, api.OK, 0, 9, 6},
		{"/s", api.ErrNone, api.ErrNone, api.ErrExist, 0, 0, 7},
		{"/loop", api.ErrLoop, api.ErrLoop, api.ErrExist, 0, 0, 7},
		{"/loop/x", api.ErrLoop, api.ErrLoop, api.ErrLoop, 0, 0, 7},
		{"/m", api.ErrIsDir, api.ErrIsDir, api.ErrExist, 0, 0, 7},
		{"/d", api.ErrIsDir, api.ErrIsDir, api.ErrExist, 0, 0, 7},
		{"/", api.ErrIsDir, api.ErrIsDir, api.ErrExist, 0, 0, 7},
		{"///", api.ErrIsDir, api.ErrIsDir, api.ErrExist, 0, 0, 7},
		{"/d/..", api.ErrIsDir, api.ErrInval, api.ErrInval, 0, 0, 7},
		{"/f/.", api.OK, api.ErrInval, api.ErrInval, 2, 0, 7},
		{"/f/x", api.ErrNotDir, api.ErrNotDir, api.ErrNotDir, 0, 0, 7},
		{"/f/..", api.ErrNotDir, api.ErrInval, api.ErrInval, 0, 0, 7},
		{"/x/y", api.ErrNone, api.ErrNone, api.ErrNone, 0, 0, 7},
		{"/s/y", api.ErrNone, api.ErrNone, api.ErrNone, 0, 0, 7},
		{"", api.ErrInval, api.ErrInval, api.ErrInval, 0, 0, 7},
		{"f", api.ErrInval, api.ErrInval, api.ErrInval, 0, 0, 7},
		{"/\x00", api.ErrInval, api.ErrInval, api.ErrInval, 0, 0, 7},
		{"/" + rep("x", 28), api.ErrTooLong, api.ErrTooLong, api.ErrTooLong, 0, 0, 7},
		{rep("/x", 33), api.ErrTooLong, api.ErrTooLong, api.ErrTooLong, 0, 0, 7},
	} {
		for _, more := range []int{0, behind, trunc} {
			for _, way := range []struct {
				flags int
				e     api.Errno
				inode int
				free  int
			}{
				{0, c.plain, c.inode, 7}, {excl, c.plain, c.inode, 7},
				{create, c.made, c.afterMade, c.places}, {create | excl, c.madeAlone, c.afterMade, c.places},
			} {
				b := wood(t)
				if way.e != api.OK {
					b.refuses(way.e, opens(c.s, rw|more|way.flags))
					continue
				}
				b.opens(0, c.s, rw|more|way.flags)
				if st, e := b.Stat(0); e != api.OK || st.Inode != way.inode {
					t.Errorf("P21.2: Open(%q, %d) is of the inode %d, want %d", c.s, rw|more|way.flags, st.Inode, way.inode)
				}
				if free := b.Do(room().c).Room.FreeInodes; free != way.free {
					t.Errorf("P21.2: behind Open(%q, %d) %d inodes are free, want %d", c.s, rw|more|way.flags, free, way.free)
				}
				b.closesAll()
			}
		}
	}
}

// P21.2: where no inode or no cell can be had Open makes nothing.
func TestOpenWithoutRoom(t *testing.T) {
	b := fresh(t, 128)
	for n := range 13 {
		b.does(opens(fmt.Sprint("/", n), w|create|excl))
	}
	b.does(creates("/z"))
	b.refuses(api.ErrSpace, opens("/more", w|create), opens("/more", rw|create|excl|trunc))
	b.opens(13, "/12", w|create)
	b.refuses(api.ErrNone, opens("/more", w))
	b.closesAll()
}

// P21.2: with TruncFlag the file is empty, its blocks are free, and other numbers of it keep their places.
func TestTruncFlag(t *testing.T) {
	b := wood(t)
	before := b.Do(room().c).Room.FreeBlocks
	b.opens(0, "/f", rw)
	b.does(seeks(0, 700, 0))
	b.opens(1, "/d/h", r)
	b.reads(1, 2, "0,")
	b.opens(2, "/d/h", w|trunc)
	b.free(before+3, 7)
	b.is(0, 2, 2, 0, 0)
	b.at(0, 700)
	b.at(1, 2)
	b.at(2, 0)
	b.reads(1, 5, "")
	b.tells(writes(2, "new bytes"), 9)
	b.reads(1, 16384, "w bytes")
	b.tells(writes(0, "!"), 1)
	b.holds("/f", "new bytes"+zeros(691)+"!")

	// Of a file that is made, of one that is empty, and where a symbolic link leads to.
	b.opens(3, "/made", w|create|trunc|excl)
	b.opens(4, "/made", w|create|trunc)
	b.is(3, 9, 1, 0, 0)
	b.opens(5, "/l", rw|trunc)
	b.is(5, 4, 1, 0, 0)
	b.holds("/d/g", "")
	// Where Open is refused nothing is cut.
	b.refuses(api.ErrExist, opens("/f", w|create|excl|trunc))
	b.refuses(api.ErrIsDir, opens("/d", w|trunc))
	b.is(0, 2, 2, 701, 2)
	// Without it nothing is cut either.
	b.opens(6, "/f", rw|create|behind)
	b.is(0, 2, 2, 701, 2)
	b.closesAll()
}

// P21.2, Errors: which of two errors comes first: the flags, then the numbers, then what the file system answers.
func TestOrderOfOpen(t *testing.T) {
	wrong := []string{"", "f", "/\x00", "/" + rep("x", 28), rep("/", 1025), "/none", "/none/x", "/f/x", "/loop", "/d", "/"}
	b := wood(t)
	for _, s := range wrong {
		for _, flags := range []int{-1, 0, 4, 12, 16, 17, 33, 48, 64, math.MinInt, math.MaxInt} {
			b.refuses(api.ErrInval, opens(s, flags))
		}
	}
	b.opens(0, "/f", rw)
	for range 15 {
		b.does(dups(0))
	}
	for _, s := range append(wrong, "/f", "/new", "/l", "/s") {
		for flags := -1; flags <= 64; flags++ {
			want := api.ErrFds
			if !mayBe(flags) {
				want = api.ErrInval
			}
			b.refuses(want, opens(s, flags))
		}
		for _, flags := range farFlags() {
			b.refuses(api.ErrInval, opens(s, flags))
		}
	}
	b.holds("/f", pattern(1200))
	b.refuses(api.ErrNone, lstat("/new"))
	b.d.Crash(nil)
	b.refuses(api.ErrInval, opens("/f", 0), opens("/f", 64), opens("", 0))
	b.refuses(api.ErrFds, opens("/f", 1), opens("", 1), opens("/new", 7))
	b.does(closes(3))
	b.refuses(api.ErrDown, opens("/f", 1), opens("/new", 7), opens("/f", w|trunc))
	b.refuses(api.ErrInval, opens("", 1), opens("/d/.", 7))
	b.refuses(api.ErrTooLong, opens("/"+rep("x", 28), 1))
}

// P21.2, P21.4: the lowest number that isn't open is taken, behind Closes in any order too; sixteen and no more.
func TestLowestNumber(t *testing.T) {
	draw := rand.New(rand.NewSource(1))
	b := fresh(t, 128)
	b.does(creates("/f"))
	for range 40 {
		for fd := len(b.Numbers()); fd < 16; fd = len(b.Numbers()) {
			lowest := 0
			for slices.Contains(b.Numbers(), lowest) {
				lowest++
			}
			if fd > 0 && draw.Intn(2) == 0 {
				l := b.Numbers()
				b.tells(dups(l[draw.Intn(len(l))]), lowest)
			} else {
				b.opens(lowest, "/f", 1+draw.Intn(3))
			}
		}
		b.refuses(api.ErrFds, opens("/f", r), opens("/g", w|create), dups(0), dups(draw.Intn(16)), dups(15))
		for _, fd := range draw.Perm(16)[:1+draw.Intn(16)] {
			b.does(closes(fd))
			b.refuses(api.ErrFd, closes(fd), dups(fd), stats(fd))
		}
	}
	b.closesAll()
	b.refuses(api.ErrNone, lstat("/g"))
}

// P21.1: two tables of two file systems know nothing of one another, nor do two open files.
func TestTables(t *testing.T) {
	a, b := fresh(t, 128), fresh(t, 128)
	a.opens(0, "/f", rw|create)
	a.opens(1, "/g", rw|create)
	b.refuses(api.ErrFd, ofNumber(0)...)
	b.opens(0, "/f", w|create)
	a.does(writes(1, "one"))
	b.does(writes(0, "other"), closes(0))
	a.reads(0, 5, "")
	a.at(1, 3)
	b.holds("/f", "other")
	a.closesAll()
	b.closesAll()
	a.sameNumbers("all Closes", nil)
}
