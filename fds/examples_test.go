package fds_test

import (
	"math"
	"testing"

	"bole/api"
)

// The chapter's examples, one behind the other on one file system, as they stand there.
func TestExamples(t *testing.T) {
	b := fresh(t, 128)

	// 1.
	b.refuses(api.ErrNone, opens("/a", 1))
	b.opens(0, "/a", 7)
	b.refuses(api.ErrExist, opens("/a", 15))
	b.opens(1, "/a", 1)
	b.tells(writes(0, "hello"), 5)
	b.reads(1, 3, "hel")
	b.reads(1, 9, "lo")
	b.reads(1, 9, "")
	b.reads(0, 9, "")
	b.refuses(api.ErrAccess, writes(1, "x"))
	b.opens(2, "/a", 2)
	b.refuses(api.ErrAccess, reads(2, 1))

	// 2.
	b.tells(seeks(0, 1, 0), 1)
	b.reads(0, 2, "el")
	b.tells(seeks(0, -1, 1), 2)
	b.tells(seeks(0, -2, 2), 3)
	b.refuses(api.ErrInval, seeks(0, -6, 2), seeks(0, 8459265, 0), seeks(0, 1, 3), seeks(0, math.MaxInt, 1))
	b.tells(seeks(0, 10, 0), 10)
	b.tells(writes(0, "z"), 1)
	b.holds("/a", "hello\x00\x00\x00\x00\x00z")

	// 3.
	b.tells(dups(0), 3)
	b.tells(seeks(3, 0, 0), 0)
	b.reads(0, 1, "h")
	b.reads(3, 1, "e")
	b.gives(closes(0), out{})
	b.reads(3, 1, "l")
	b.refuses(api.ErrFd, closes(0))
	b.opens(0, "/a", 34)
	b.tells(seeks(0, 0, 0), 0)
	b.tells(writes(0, "!"), 1)
	b.holds("/a", "hello\x00\x00\x00\x00\x00z!")

	// 4.
	b.refuses(api.ErrIsDir, opens("/", 1))
	for _, flags := range []int{0, 4, 16, 17, 33, 64, -1} {
		b.refuses(api.ErrInval, opens("/a", flags))
	}
	b.opens(4, "/a", 18)
	b.holds("/a", "")
	for fd := 5; fd < 16; fd++ {
		b.opens(fd, "/a", 1)
	}
	b.refuses(api.ErrFds, opens("/a", 1), opens("/none", 1), dups(0), dups(15))

	// 5.
	for fd := 5; fd < 16; fd++ {
		b.does(closes(fd))
	}
	b.does(writes(2, "again"))
	b.free(25, 13)
	b.gives(unlink("/a"), out{})
	b.refuses(api.ErrNone, lstat("/a"))
	b.does(seeks(1, 0, 0))
	b.reads(1, 9, "again")
	b.is(1, 2, 0, 5, 1)
	for _, fd := range []int{4, 0, 3, 2} {
		b.does(closes(fd))
		b.free(25, 13)
	}
	b.does(closes(1))
	b.free(26, 14)
	b.right("the last Close")

	b.opens(0, "/a", 7)
	b.opens(1, "/b", 7)
	b.does(writes(0, "old"), writes(1, "new"))
	b.gives(rename("/b", "/a"), out{})
	b.does(seeks(0, 0, 0))
	b.reads(0, 9, "old")
	b.is(0, 2, 0, 3, 1)
	b.holds("/a", "new")
	b.free(24, 12)
	b.does(closes(0))
	b.free(25, 13)
	b.closesAll()
}

// The document's example 7 of the whole: what is open and has no name is an orphan, and a mount behind a power cut lets it go.
func TestExampleOfAnOrphan(t *testing.T) {
	b := fresh(t, 128)
	b.does(mkdir("/d"), creates("/d/a"))
	b.opens(0, "/d/b", 7)
	b.tells(writes(0, "text"), 4)
	b.does(unlink("/d/b"))
	b.is(0, 4, 0, 4, 1)
	b.right("an Unlink", 4)
	b.d.Crash(nil)
	c := opened(t, b.d.Image())
	c.right("a mount")
	c.refuses(api.ErrFd, ofNumber(0)...)
	c.refuses(api.ErrNone, lstat("/d/b"))
	c.free(25, 12)
}

// The document's example 9 of the whole: too many open files; too many bytes at once; too many for the disk.
func TestExampleOfLimits(t *testing.T) {
	b := fresh(t, 128)
	b.does(opens("/f", 7))
	for range 15 {
		b.does(opens("/f", 1))
	}
	b.refuses(api.ErrFds, opens("/f", 1))
	b.refuses(api.ErrInval, writes(0, pattern(16385)))
	b.free(26, 13)
	b.refuses(api.ErrSpace, writes(0, pattern(16384)))
	b.free(26, 13)
	b.at(0, 0)
	b.is(0, 2, 1, 0, 0)
}
