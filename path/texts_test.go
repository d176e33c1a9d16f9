package path_test

import (
	"fmt"
	"math/rand"
	"slices"
	"testing"

	"bole/api"
	"bole/path"
)

// P13.1 to P13.6: every short text of slashes, dots, zero bytes and two others.
func TestEveryShortText(t *testing.T) {
	for _, s := range append(small("/.a\x00\xff", 6), small("/.a", 9)...) {
		wantPlain(t, s)
		wantPlain(t, "/"+s)
	}
}

// P13.1 to P13.6: texts of dots and slashes alone.
func TestDotsAndSlashes(t *testing.T) {
	for _, s := range small("/.", 13) {
		wantPlain(t, s)
	}
}

// P13.1 to P13.6: texts about every edge.
func TestSamples(t *testing.T) {
	for _, s := range samples() {
		wantPlain(t, s)
	}
}

// P13.1, P13.2, P13.3, P13.5: the length of the text, whatever it is made of.
func TestLengths(t *testing.T) {
	for n, err := range map[int]api.Errno{1023: api.OK, 1024: api.OK, 1025: api.ErrTooLong, 1026: api.ErrTooLong, 5000: api.ErrTooLong} {
		slashes := rep("/", n)
		dots := rep("/.", n)[:n-2] + "//"
		apart := "/a" + rep("/", n-3) + "b"
		behind := "/a/b" + rep("/", n-4)
		ab, a, clean, last := []string{"a", "b"}, []string{"a"}, "/a/b", "b"
		root := "/"
		if err != api.OK {
			ab, a, clean, last, root = nil, nil, "", "", ""
		}
		wantParse(t, slashes, nil, err)
		wantText(t, slashes, nil, err == api.OK, err)
		wantMake(t, slashes, nil, "", err)
		wantClean(t, slashes, root, err)
		wantParse(t, dots, nil, err)
		wantText(t, dots, nil, err == api.OK, err)
		wantClean(t, dots, root, err)
		for _, s := range []string{apart, behind} {
			wantParse(t, s, ab, err)
			wantText(t, s, ab, err == api.OK, err)
			wantMake(t, s, a, last, err)
			wantClean(t, s, clean, err)
		}
		wantText(t, "b"+rep("/", n-1), many(last, min(len(last), 1)), false, err)
		wantText(t, "."+rep("/", n-1), nil, false, err)
		wantPlain(t, rep("/", n-1)+"b")
	}
}

// P13.1, P13.2, P13.3, P13.5: a component of 26, 27 and 28 bytes at each place.
func TestComponentLengths(t *testing.T) {
	for n, err := range map[int]api.Errno{26: api.OK, 27: api.OK, 28: api.ErrTooLong, 29: api.ErrTooLong, 1000: api.ErrTooLong} {
		for _, letter := range []string{"x", ".", "\xff", "\x01"} {
			for at := range 5 {
				l := []string{"a", "..", "b", "c", "d"}
				l[at] = rep(letter, n)
				s := "/" + l[0] + "/" + l[1] + "//" + l[2] + "/./" + l[3] + "/" + l[4] + "/"
				if err != api.OK {
					wantError(t, s, err)
					wantText(t, s, nil, false, err)
					wantText(t, s[1:], nil, false, err)
					continue
				}
				wantParse(t, s, l, api.OK)
				wantText(t, s, l, true, api.OK)
				wantText(t, s[1:], l, false, api.OK)
				wantMake(t, s, l[:4], l[4], api.OK)
				wantPlain(t, s)
			}
		}
	}
}

// P13.1, P13.2, P13.3, P13.5: 31, 32 and 33 components; '..' counts, '.' does not.
func TestCounts(t *testing.T) {
	for n, err := range map[int]api.Errno{31: api.OK, 32: api.OK, 33: api.ErrTooLong, 34: api.ErrTooLong, 300: api.ErrTooLong} {
		for _, c := range []string{"x", "..", "...", "\x80"} {
			for _, between := range []string{"/", "//", "/./", "/././", "/.//./"} {
				s := rep(between+c, n)
				l := many(c, n)
				if len(s) > 1024 {
					continue
				}
				if err != api.OK {
					wantParse(t, s, nil, err)
					wantText(t, s, nil, false, err)
					wantClean(t, s, "", err)
					wantParse(t, s+between, nil, err)
					continue
				}
				wantParse(t, s, l, api.OK)
				wantParse(t, s+between, l, api.OK)
				wantText(t, s, l, true, api.OK)
				wantText(t, s[1:], l, between != "/" && between[1] == '/', api.OK)
				wantPlain(t, s)
			}
		}
	}
	wantMake(t, rep("/x", 31), many("x", 30), "x", api.OK)
	wantMake(t, rep("/x", 32), many("x", 31), "x", api.OK)
	wantMake(t, rep("/x", 33), nil, "", api.ErrTooLong)
	wantMake(t, rep("/..", 31)+"/x", many("..", 31), "x", api.OK)
	wantMake(t, rep("/..", 32)+"/x", nil, "", api.ErrTooLong)
	wantClean(t, rep("/x", 32), rep("/x", 32), api.OK)
	wantClean(t, rep("/x/..", 16), "/", api.OK)
	wantClean(t, rep("/x/..", 16)+"/x", "", api.ErrTooLong)
	wantClean(t, rep("/..", 33), "", api.ErrTooLong)
}

// P13.1 to P13.5: a zero byte at each place of a text, put in or in the place of a byte.
func TestZeroAtEachPlace(t *testing.T) {
	for _, s := range []string{"/", "/a", "/a/b", "//a/./b///..", "/..", "/.", "a/../b", rep("/", 1024), rep("/", 1030), rep("/x", 33), "/" + rep("x", 28) + "/.", "/a/" + rep("y", 1100)} {
		for at := range len(s) + 1 {
			with := []string{s[:at] + "\x00" + s[at:]}
			if at < len(s) {
				with = append(with, s[:at]+"\x00"+s[at+1:])
			}
			for _, z := range with {
				wantError(t, z, api.ErrInval)
				wantText(t, z, nil, false, api.ErrInval)
				wantJoin(t, []string{z}, "", api.ErrInval)
				wantName(t, z, false)
			}
		}
	}
}

// P13.1, P13.3, P13.5: texts without a '/' at their head; P13.2 takes them.
func TestNoSlashAhead(t *testing.T) {
	for _, s := range []string{"a", "a/", "a/b", ".", "./", "./a", "..", "../a", "..//b/.", " /a", "\\a", "\x2e/a", "\xff/a", "\xe2\x88\x95a", "\xef\xbc\x8fa", "~/a", "~"} {
		wantParse(t, s, nil, api.ErrInval)
		wantMake(t, s, nil, "", api.ErrInval)
		wantClean(t, s, "", api.ErrInval)
		wantText(t, s, plainComponents(s), false, api.OK)
		wantText(t, "/"+s, plainComponents(s), true, api.OK)
		wantParse(t, "/"+s, plainComponents(s), api.OK)
	}
}

// P13.1 to P13.6: each byte but '/' and zero is a byte as any other, alone, as a dot's neighbour and in rows of 27 and 28.
func TestEachByte(t *testing.T) {
	for b := 1; b < 256; b++ {
		x := string([]byte{byte(b)})
		if x == "/" || x == "." {
			continue
		}
		for _, c := range []string{x, x + x, x + ".", "." + x, ".." + x, x + "..", "a" + x + "a", rep(x, 27), "a\xe2" + x + "\x82"} {
			wantParse(t, "/"+c, []string{c}, api.OK)
			wantParse(t, "/a/"+c+"//"+c+"/.", []string{"a", c, c}, api.OK)
			wantText(t, c+"/..", []string{c, ".."}, false, api.OK)
			wantMake(t, "/"+c+"/"+c+"/", []string{c}, c, api.OK)
			wantJoin(t, []string{c, c}, "/"+c+"/"+c, api.OK)
			wantClean(t, "//"+c+"/"+c+"/..", "/"+c, api.OK)
			wantName(t, c, true)
		}
		for _, c := range []string{rep(x, 28), rep(x, 14) + rep("\xc3", 14)} {
			wantError(t, "/"+c, api.ErrTooLong)
			wantText(t, c, nil, false, api.ErrTooLong)
			wantJoin(t, []string{c}, "", api.ErrTooLong)
			wantName(t, c, false)
		}
		wantParse(t, x+"/a", nil, api.ErrInval)
	}
}

// P13.1: components in their order, the same one again and again too.
func TestParseOrder(t *testing.T) {
	wantParse(t, "/c/a/b", []string{"c", "a", "b"}, api.OK)
	wantParse(t, "/a/a/b/a", []string{"a", "a", "b", "a"}, api.OK)
	wantParse(t, "/../a/../..", []string{"..", "a", "..", ".."}, api.OK)
	wantParse(t, "/.a/a./..a/a../...", []string{".a", "a.", "..a", "a..", "..."}, api.OK)
	wantParse(t, "/./.././a/.", []string{"..", "a"}, api.OK)
	wantParse(t, "/a b/ / c", []string{"a b", " ", " c"}, api.OK)
	wantText(t, "c/a//b/", []string{"c", "a", "b"}, false, api.OK)
	wantText(t, "//c/a/./b/.", []string{"c", "a", "b"}, true, api.OK)
	wantText(t, "..", []string{".."}, false, api.OK)
	wantText(t, "/..", []string{".."}, true, api.OK)
	wantText(t, "./", nil, false, api.OK)
	wantText(t, "/.", nil, true, api.OK)
}

// P13.3: a last piece '.' or '..', with slashes behind it; ahead of the last one both may stand.
func TestMakeLastPiece(t *testing.T) {
	for _, ahead := range []string{"/", "//", "/a/", "/a//", "/../", "/./", "/a/../", "/a/./b///"} {
		for _, behind := range []string{"", "/", "//", rep("/", 100)} {
			for _, dots := range []string{".", ".."} {
				wantMake(t, ahead+dots+behind, nil, "", api.ErrInval)
			}
			for _, name := range []string{"x", "...", ".x", "..x", "x.", "x..", " .", "\xff", rep("x", 27)} {
				wantMake(t, ahead+name+behind, plainComponents(ahead), name, api.OK)
			}
		}
	}
	for _, s := range []string{"/", "//", "///", rep("/", 1024)} {
		wantMake(t, s, nil, "", api.OK)
	}
	wantMake(t, "/a", nil, "a", api.OK)
	wantMake(t, "/./a/", nil, "a", api.OK)
	wantMake(t, "/a/a/a", []string{"a", "a"}, "a", api.OK)
}

// P13.5: '..' at the head, one behind the other, behind all that there is.
func TestCleanDots(t *testing.T) {
	for s, want := range map[string]string{
		"/":                                   "/",
		"/.":                                  "/",
		"//./":                                "/",
		"/../..":                              "/",
		"/../../a":                            "/a",
		"/.././../a/./b/":                     "/a/b",
		"/a":                                  "/a",
		"/a/..":                               "/",
		"/a/../":                              "/",
		"/a/../..":                            "/",
		"/a/../../..":                         "/",
		"/a/../../../b":                       "/b",
		"/a/b/..":                             "/a",
		"/a/b/../..":                          "/",
		"/a/b/../../..":                       "/",
		"/a/b/../../../c":                     "/c",
		"/a/b/../c":                           "/a/c",
		"/a/../b/../c":                        "/c",
		"/a/b/c/../../d":                      "/a/d",
		"/a/b/c/d/../../../e/../f":            "/a/f",
		"/a/./../b":                           "/b",
		"/a/.../..":                           "/a",
		"/.../..a/a../.a/..":                  "/.../..a/a..",
		"/a/a/a/..":                           "/a/a",
		rep("/a", 16) + rep("/..", 15) + "/b": "/a/b",
		rep("/a", 16) + rep("/..", 16):        "/",
		rep("/..", 31) + "/a":                 "/a",
	} {
		wantClean(t, s, want, api.OK)
	}
}

// P13.6: a name's length, its bytes, and what isn't one.
func TestNames(t *testing.T) {
	for _, s := range []string{"a", "A b", "...", "....", " ", "\n", "\x01", "\x7f", "\x80", "\xff", ".a", "a.", "..a", "a..", ". ", " .", ".\xff", "é", rep("x", 26), rep("x", 27), rep(".", 27), rep("\xff", 27)} {
		wantName(t, s, true)
		wantParse(t, "/"+s, []string{s}, api.OK)
		wantMake(t, "/"+s, nil, s, api.OK)
	}
	for _, s := range []string{"", ".", "..", "/", "//", "a/", "/a", "a/b", "/.", "./", "../", "/..", "\x00", "a\x00", "\x00a", "a\x00a", ".\x00", "..\x00", rep("x", 28), rep(".", 28), rep("x", 27) + "/", rep("x", 27) + "\x00", rep("/", 27), rep("é", 14), rep("x", 1000)} {
		wantName(t, s, false)
	}
	for _, s := range samples() {
		wantName(t, s, plainName(s))
	}
}

// anyText puts pieces and slashes one behind the other, so that each error and none comes out often.
func anyText(r *rand.Rand) string {
	s := ""
	if r.Intn(8) > 0 {
		s = "/"
	}
	for range r.Intn([]int{4, 12, 45, 70}[r.Intn(4)]) {
		switch k := r.Intn(60); {
		case k == 0:
			s += "\x00"
		case k < 3:
			s += rep("x", 24+r.Intn(6))
		case k < 4:
			s += rep("/", r.Intn(400))
		case k < 14:
			s += ".."
		case k < 22:
			s += "."
		case k < 26:
			s += rep(string([]byte{byte(r.Intn(256))}), r.Intn(4))
		default:
			s += string("abc"[r.Intn(3)])
		}
		if r.Intn(9) > 0 {
			s += rep("/", 1+r.Intn(2))
		}
	}
	return s
}

// P13.1 to P13.6: any texts, against the chapter's words said plainly.
func TestAnyTexts(t *testing.T) {
	r := rand.New(rand.NewSource(13))
	count := map[string]int{}
	for range 30000 {
		s := anyText(r)
		wantPlain(t, s)
		_, e := path.Parse(s)
		count[fmt.Sprint("Parse ", e)]++
		_, _, e = path.Text(s)
		count[fmt.Sprint("Text ", e)]++
		_, _, e = path.Make(s)
		count[fmt.Sprint("Make ", e)]++
		if t.Failed() {
			t.FailNow()
		}
	}
	for _, call := range []string{"Parse", "Text", "Make"} {
		for _, e := range []api.Errno{api.OK, api.ErrInval, api.ErrTooLong} {
			if n := count[fmt.Sprint(call, " ", e)]; n < 500 {
				t.Errorf("%s answered %d of any texts %d times only", call, e, n)
			}
		}
	}
}

// P13.1 to P13.3: with no error the list is the components alone: no place of it is empty or '.'.
func TestNoDotAnswered(t *testing.T) {
	for _, s := range samples() {
		l, _ := path.Parse(s)
		text, _, _ := path.Text(s)
		ahead, _, _ := path.Make(s)
		for _, c := range slices.Concat(l, text, ahead) {
			if c == "" || c == "." {
				t.Errorf("P13.1: %q among the components of %s", c, short(s))
			}
		}
	}
}
