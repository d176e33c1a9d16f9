package path_test

import (
	"slices"
	"testing"

	"bole/api"
)

// tooLongs are pieces of a text by which it is too long, each for another cause, with slashes about them.
func tooLongs() []string {
	return []string{
		"/" + rep("x", 28) + "/",
		"/" + rep(".", 28) + "/",
		"/" + rep("\xff", 28) + "/",
		rep("/x", 33) + "/",
		rep("/..", 33) + "/",
		rep("/", 1025),
		rep("/.", 513) + "/",
		"/" + rep("x", 2000) + "/",
	}
}

// P13.1, P13.2, P13.3, P13.5: each cause of ErrTooLong by itself, at the head, in the midst and at the end.
func TestTooLong(t *testing.T) {
	for _, long := range tooLongs() {
		for _, s := range []string{long + "a", "/a" + long + "b", "/a" + long + "b//", "/../a" + long + "b"} {
			wantError(t, s, api.ErrTooLong)
			wantText(t, s, nil, false, api.ErrTooLong)
			wantText(t, "b"+s, nil, false, api.ErrTooLong)
		}
	}
}

// P13.1, P13.2, P13.3, P13.5: ErrInval ahead of ErrTooLong, wherever in the text each stands.
func TestInvalAheadOfTooLong(t *testing.T) {
	for _, long := range tooLongs() {
		for _, s := range []string{"\x00" + long, "/\x00" + long, "/a\x00" + long, long + "\x00", long + "a\x00", long + "\x00/a", "a\x00" + long + "b", long + "\x00" + long} {
			wantError(t, s, api.ErrInval)
			wantText(t, s, nil, false, api.ErrInval)
		}
		for _, s := range []string{"a" + long, "." + long + "b", ".." + long, " " + long} {
			wantError(t, s, api.ErrInval)
			wantText(t, s, nil, false, api.ErrTooLong)
		}
	}
}

// P13.3: a last piece '.' or '..' is ErrInval ahead of every ErrTooLong, which Parse and Clean tell of the same path.
func TestLastPieceAheadOfTooLong(t *testing.T) {
	for _, long := range tooLongs() {
		for _, dots := range []string{".", ".."} {
			for _, behind := range []string{"", "/", "///", rep("/", 1100)} {
				s := long + dots + behind
				wantMake(t, s, nil, "", api.ErrInval)
				wantParse(t, s, nil, api.ErrTooLong)
				wantClean(t, s, "", api.ErrTooLong)
				wantText(t, s, nil, false, api.ErrTooLong)
			}
			s := "/" + dots + long + "a"
			wantMake(t, s, nil, "", api.ErrTooLong)
		}
	}
	wantMake(t, rep("/x", 32)+"/..", nil, "", api.ErrInval)
	wantMake(t, rep("/x", 32)+"/.", nil, "", api.ErrInval)
	wantMake(t, rep("/", 1024)+".", nil, "", api.ErrInval)
	wantMake(t, "/.\x00", nil, "", api.ErrInval)
	wantMake(t, "/\x00/.", nil, "", api.ErrInval)
	wantMake(t, "a/.", nil, "", api.ErrInval)
	wantMake(t, "..", nil, "", api.ErrInval)
}

// P13.1, P13.3, P13.5: the empty text.
func TestEmptyText(t *testing.T) {
	wantError(t, "", api.ErrInval)
	wantText(t, "", nil, false, api.ErrInval)
	wantName(t, "", false)
}

// noParts are texts that no part may be; some are too long as well.
func noParts() []string {
	return []string{"", ".", "/", "//", "a/", "/a", "a/b", "/.", "./", "../", "/..", "../..", "\x00", "a\x00", "\x00a", "a\x00b", "..\x00", rep("x", 30) + "/", "/" + rep("x", 30), rep("x", 30) + "\x00", "\x00" + rep("x", 30), rep("/", 28), rep("\x00", 28)}
}

// P13.4: each part that may not be, at each place of a list, alone and beside what is too long.
func TestJoinInval(t *testing.T) {
	long := rep("x", 28)
	for _, p := range noParts() {
		for _, l := range [][]string{nil, {"a"}, {"a", ".."}, {long}, {"a", long, "b"}, many("x", 31), many("x", 32), many("x", 33), many(long, 40)} {
			for at := range len(l) + 1 {
				wantJoin(t, slices.Insert(slices.Clone(l), at, p), "", api.ErrInval)
			}
		}
		wantJoin(t, many(p, 2), "", api.ErrInval)
		wantJoin(t, many(p, 33), "", api.ErrInval)
	}
}

// P13.4: a part of 26, 27 and 28 bytes at each place, and 31, 32 and 33 parts.
func TestJoinTooLong(t *testing.T) {
	for n, err := range map[int]api.Errno{26: api.OK, 27: api.OK, 28: api.ErrTooLong, 29: api.ErrTooLong, 1 << 20: api.ErrTooLong} {
		for _, letter := range []string{"x", ".", "\xff"} {
			for at := range 4 {
				l := []string{"a", "..", "b", "c"}
				l[at] = rep(letter, n)
				want := "/" + l[0] + "/" + l[1] + "/" + l[2] + "/" + l[3]
				if err != api.OK {
					want = ""
				}
				wantJoin(t, l, want, err)
			}
		}
	}
	for n, err := range map[int]api.Errno{31: api.OK, 32: api.OK, 33: api.ErrTooLong, 34: api.ErrTooLong, 1000: api.ErrTooLong} {
		for _, p := range []string{"x", "..", "...", rep("x", 27)} {
			want := rep("/"+p, n)
			if err != api.OK {
				want = ""
			}
			wantJoin(t, many(p, n), want, err)
		}
	}
	// As long as a path of parts can be: 896 bytes.
	wantJoin(t, many(rep("y", 27), 32), rep("/"+rep("y", 27), 32), api.OK)
}

// P13.4: parts are told as they are, in their order.
func TestJoinParts(t *testing.T) {
	wantJoin(t, []string{"a"}, "/a", api.OK)
	wantJoin(t, []string{"c", "a", "b", "a"}, "/c/a/b/a", api.OK)
	wantJoin(t, []string{".."}, "/..", api.OK)
	wantJoin(t, []string{"..", "..", "a", ".."}, "/../../a/..", api.OK)
	wantJoin(t, []string{"...", ".a", "a."}, "/.../.a/a.", api.OK)
	wantJoin(t, []string{" ", "\xff\x80", "\n"}, "/ /\xff\x80/\n", api.OK)
}

// P13.4: every short list of short texts, against the chapter's words said plainly.
func TestJoinEvery(t *testing.T) {
	texts := append(small("/.a\x00", 3), rep("x", 27), rep("x", 28), rep("/", 28))
	for _, a := range texts {
		for _, b := range texts {
			s, e := plainJoin([]string{a, b})
			wantJoin(t, []string{a, b}, s, e)
			s, e = plainJoin([]string{"a", b, a})
			wantJoin(t, []string{"a", b, a}, s, e)
		}
	}
}
