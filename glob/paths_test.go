package glob_test

import (
	"fmt"
	"slices"
	"strings"
	"testing"

	"bole/api"
)

// P23.3: texts that are no patterns of paths, also where nothing would be come to by the part that is at fault.
func TestNoPatternOfPaths(t *testing.T) {
	all := laid(t, exampleTree()...)
	for _, p := range []string{
		"", "a", "a/b", "*", "**", "**/a", " /a", "./a", "../a", `\/a`, "[/]", "\x00", "\x00/",
		"/\x00", "/a\x00", "/a\x00b", "/a/\x00/b", "/\x00a", "/[\x00]", "/\\\x00", "/**\x00", "/a/b\x00", "//\x00//",
		"/[", "/[]", "/[!]", "/[z-a]", `/\`, `/a\`, `/a\/b`, "/a/[", "/[/]", "/[a/b]", "/a[/]b", "/[a", "/**[", `/**\`, `/**/\`,
		"/x/[", "/x/y/z/[!]", `/x/\`, "/b/[z-a]", "/../[", "/a/b/c/[a", "/**/x/[", "/x/**/[", "/[/x", "/[]/x",
	} {
		refuses(t, all, p, api.ErrPattern)
	}
}

// P23.3: 1024 bytes and 1025; a part may be as long as that lets it.
func TestLengthsOfPaths(t *testing.T) {
	all := laid(t, exampleTree()...)
	slashes := rep("/", 1024)
	tells(t, all, slashes, "/")
	refuses(t, all, slashes+"/", api.ErrPattern)
	tells(t, all, rep("/", 1023)+"a", "/a")
	refuses(t, all, rep("/", 1024)+"a", api.ErrPattern)
	tells(t, all, "/a"+rep("/", 1021)+"b", "/a/b")
	refuses(t, all, "/a"+rep("/", 1022)+"b", api.ErrPattern)
	tells(t, all, "/"+rep("*", 1023), "/a", "/b", "/l")
	refuses(t, all, "/"+rep("*", 1024), api.ErrPattern)
	tells(t, all, "/"+rep("*", 1022)+"b", "/b")
	tells(t, all, "/"+rep("x", 1023))
	refuses(t, all, "/"+rep("x", 1024), api.ErrPattern)
	tells(t, all, "/["+rep("xb", 510)+"b]", "/b")
	refuses(t, all, "/["+rep("xb", 511)+"]", api.ErrPattern)
	refuses(t, all, "/"+rep("*", 1<<20), api.ErrPattern)
	refuses(t, all, rep("/", 1<<20), api.ErrPattern)
	tells(t, all, "/**"+rep("/", 1019)+"/b", "/a/b", "/a/c/b", "/b")
}

// deep is so many directories, one in the other, each of this name, with a file f in the last.
func deep(name string, n int) (things, paths []string) {
	at := ""
	for range n {
		at += "/" + name
		things = append(things, at+"/")
		paths = append(paths, at)
	}
	return append(things, at+"/f"), append(paths, at+"/f")
}

// P23.3: 32 parts and 33, of each kind; the deepest names there are.
func TestManyParts(t *testing.T) {
	things, paths := deep("d", 31)
	all := laid(t, things...)
	last := paths[31]
	tells(t, all, last, last)
	tells(t, all, rep("/*", 32), last)
	tells(t, all, rep("/d", 31), paths[30])
	tells(t, all, rep("//d", 31)+"//f//", last)
	tells(t, all, rep("/**", 31)+"/f", last)
	tells(t, all, rep("/**/*", 16), paths[15:]...)
	tells(t, all, rep("/**", 32), append([]string{"/"}, paths...)...)
	tells(t, all, "/**", append([]string{"/"}, paths...)...)
	tells(t, all, "/**/f", last)
	tells(t, all, "/**/d/*", paths[1:]...)
	tells(t, all, rep("/x", 32))
	tells(t, all, rep("/.", 32))
	tells(t, all, rep("/d", 32))
	for _, p := range []string{rep("/d", 33), rep("/*", 33), rep("/**", 33), rep("/x", 33), rep("/.", 33), rep("/..", 33), rep("//d", 33), rep("/**/*", 16) + "/f", rep("/**", 31) + "/d/f", rep("/d", 33) + "/", rep("/x", 512)} {
		refuses(t, all, p, api.ErrPattern)
	}
}

// P23.3: the longest names, one inside the other: their path has 896 bytes.
func TestLongestPath(t *testing.T) {
	things, paths := deep(rep("n", 27), 31)
	all := laid(t, things...)
	tells(t, all, "/**", append([]string{"/"}, paths...)...)
	tells(t, all, rep("/*", 32), paths[31])
	tells(t, all, rep("/"+rep("n", 27), 31)+"/f", paths[31])
	tells(t, all, rep("/"+rep("?", 27), 31), paths[30])
	tells(t, all, rep("/"+rep("?", 28), 31))
	tells(t, all, "/"+rep("n", 28))
}

// P23.3: '//' and a '/' at the end mean nothing; so of a file too.
func TestSlashes(t *testing.T) {
	all := laid(t, exampleTree()...)
	for _, p := range []string{"/a/b", "//a/b", "/a//b", "/a/b/", "///a///b///"} {
		tells(t, all, p, "/a/b")
	}
	for _, p := range []string{"/", "//", "///", rep("/", 50)} {
		tells(t, all, p, "/")
	}
	for _, p := range []string{"/*", "//*", "/*/", "/*//", "//*//"} {
		tells(t, all, p, "/a", "/b", "/l")
	}
	for _, p := range []string{"/**", "//**", "/**/", "//**//", "/**/**", "/**//**/", "/**/**/**"} {
		tells(t, all, p, "/", "/a", "/a/b", "/a/c", "/a/c/b", "/b", "/l")
	}
	tells(t, all, "/b/", "/b")
	tells(t, all, "/l/", "/l")
}

// P23.3: '**' first, last, in the midst, alone and twice in a row.
func TestAnyNames(t *testing.T) {
	all := laid(t, "/a/", "/a/a/", "/a/a/a/", "/a/a/a/b", "/a/b/", "/a/b/a", "/b/", "/b/a/", "/c")
	for pattern, want := range map[string]string{
		"/**":              "/ /a /a/a /a/a/a /a/a/a/b /a/b /a/b/a /b /b/a /c",
		"/**/a":            "/a /a/a /a/a/a /a/b/a /b/a",
		"/**/**/a":         "/a /a/a /a/a/a /a/b/a /b/a",
		"/**/b":            "/a/a/a/b /a/b /b",
		"/**/c":            "/c",
		"/**/x":            "",
		"/a/**":            "/a /a/a /a/a/a /a/a/a/b /a/b /a/b/a",
		"/a/**/**":         "/a /a/a /a/a/a /a/a/a/b /a/b /a/b/a",
		"/c/**":            "/c",
		"/x/**":            "",
		"/a/**/a":          "/a/a /a/a/a /a/b/a",
		"/a/**/**/a":       "/a/a /a/a/a /a/b/a",
		"/a/**/b":          "/a/a/a/b /a/b",
		"/**/a/**":         "/a /a/a /a/a/a /a/a/a/b /a/b /a/b/a /b/a",
		"/**/a/**/a":       "/a/a /a/a/a /a/b/a",
		"/**/a/**/a/**":    "/a/a /a/a/a /a/a/a/b /a/b/a",
		"/**/a/**/a/**/a":  "/a/a/a",
		"/**/a/a":          "/a/a /a/a/a",
		"/**/b/**":         "/a/a/a/b /a/b /a/b/a /b /b/a",
		"/**/*":            "/a /a/a /a/a/a /a/a/a/b /a/b /a/b/a /b /b/a /c",
		"/*/**":            "/a /a/a /a/a/a /a/a/a/b /a/b /a/b/a /b /b/a /c",
		"/*/**/*":          "/a/a /a/a/a /a/a/a/b /a/b /a/b/a /b/a",
		"/**/*/*":          "/a/a /a/a/a /a/a/a/b /a/b /a/b/a /b/a",
		"/**/*/*/**/*/*":   "/a/a/a/b",
		"/*/*/**":          "/a/a /a/a/a /a/a/a/b /a/b /a/b/a /b/a",
		"/**/?/**/b/**":    "/a/a/a/b /a/b /a/b/a",
		"/**/[!a]/**":      "/a/a/a/b /a/b /a/b/a /b /b/a /c",
		"/b/**/a/**":       "/b/a",
		"/**/a/**/b/**/a/": "/a/b/a",
	} {
		tells(t, all, pattern, strings.Fields(want)...)
	}
}

// P23.3: just '**' is any names: a part with more in it is a pattern of one name.
func TestPartsOfStars(t *testing.T) {
	all := laid(t, "/a/", "/a/ab", "/ab", "/b", "/**", "/a/**", "/***")
	for pattern, want := range map[string]string{
		"/*":        "/** /*** /a /ab /b",
		"/***":      "/** /*** /a /ab /b",
		"/****":     "/** /*** /a /ab /b",
		"/***/***":  "/a/** /a/ab",
		"/a**":      "/a /ab",
		"/**b":      "/ab /b",
		"/a**b":     "/ab",
		"/**a**":    "/a /ab",
		"/[*]*":     "/** /***",
		`/\**`:      "/** /***",
		`/*\*`:      "/** /***",
		`/\*\*`:     "/**",
		"/[*][*]":   "/**",
		`/**/\*\*`:  "/** /a/**",
		`/\*\*\*`:   "/***",
		"/**?":      "/** /*** /a /ab /b",
		"/a/**/**":  "/a /a/** /a/ab",
		"/a/***":    "/a/** /a/ab",
		"/**/***":   "/** /*** /a /a/** /a/ab /ab /b",
		"/a/a**/**": "/a/ab",
	} {
		tells(t, all, pattern, strings.Fields(want)...)
	}
}

// P23.3: no name is '.' or '..', so no path is meant that has one; names that only begin like them are names.
func TestDots(t *testing.T) {
	all := laid(t, "/a/", "/a/b", "/...", "/.a/", "/.a/.b", "/..a")
	for _, p := range []string{"/.", "/..", "/./a", "/a/.", "/a/./b", "/a/../a", "/../a", "/a/..", "/.a/../a", "/**/.", "/**/..", "/./**", "/../**", "/**/../**", `/\.`, `/\.\.`, "/[.]", "/[.][.]", "/a/[.]"} {
		tells(t, all, p)
	}
	tells(t, all, "/...", "/...")
	tells(t, all, "/.*", "/...", "/..a", "/.a")
	tells(t, all, "/..?", "/...", "/..a")
	tells(t, all, "/.?", "/.a")
	tells(t, all, "/?a", "/.a")
	tells(t, all, "/*", "/...", "/..a", "/.a", "/a")
	tells(t, all, "/**/.*", "/...", "/..a", "/.a", "/.a/.b")
	tells(t, all, "/**", "/", "/...", "/..a", "/.a", "/.a/.b", "/a", "/a/b")
}

// P23.3: a symbolic link is told, by '*', by its name and by '**', wherever it leads, and not followed.
func TestSymbolicLinks(t *testing.T) {
	all := laid(t, "/d/", "/d/e/", "/d/e/f", "/d/f", "/d/up>..", "/d/self>/d/self", "/l>/d", "/m>d/e", "/none>/x", "/of>/d/f", "/r>/", "/ll>l")
	inD := []string{"/d", "/d/e", "/d/e/f", "/d/f", "/d/self", "/d/up"}
	tells(t, all, "/*", "/d", "/l", "/ll", "/m", "/none", "/of", "/r")
	tells(t, all, "/**", slices.Concat([]string{"/"}, inD, []string{"/l", "/ll", "/m", "/none", "/of", "/r"})...)
	tells(t, all, "/*/*", "/d/e", "/d/f", "/d/self", "/d/up")
	tells(t, all, "/**/f", "/d/e/f", "/d/f")
	tells(t, all, "/**/e/**", "/d/e", "/d/e/f")
	for _, link := range []string{"/l", "/m", "/none", "/of", "/r", "/ll", "/d/up", "/d/self"} {
		tells(t, all, link, link)
		tells(t, all, link+"/", link)
		tells(t, all, link+"/**", link)
		tells(t, all, link+"/*")
		tells(t, all, link+"/f")
		tells(t, all, link+"/e/f")
		tells(t, all, link+"/**/f")
		tells(t, all, link+"/.")
		tells(t, all, link+"/..")
	}
	tells(t, all, "/[!d]/**", "/l", "/m", "/r")
	tells(t, all, "/d/*/*", "/d/e/f")
}

// P23.3: nothing lies below a file.
func TestBelowFiles(t *testing.T) {
	all := laid(t, "/f", "/d/", "/d/f", "/g&/f")
	tells(t, all, "/f/**", "/f")
	tells(t, all, "/f/*")
	tells(t, all, "/f/f")
	tells(t, all, "/*/f", "/d/f")
	tells(t, all, "/*/*/*")
	tells(t, all, "/g", "/g")
	tells(t, all, "/**", "/", "/d", "/d/f", "/f", "/g")
}

// P23.3: names that have marks of patterns in them are told like others; a pattern says them behind a '\' or in a '['.
func TestNamesOfMarks(t *testing.T) {
	names := []string{"!", "*", "-", "?", "[", "[a]", "[ab", `\`, `\*`, `\a`, "]", "a", "a*b", "a-c", "ab"}
	things := []string{}
	for _, n := range names {
		things = append(things, "/"+n)
	}
	all := laid(t, things...)
	tells(t, all, "/*", things...)
	tells(t, all, "/?", "/!", "/*", "/-", "/?", "/[", `/\`, "/]", "/a")
	tells(t, all, `/\*`, "/*")
	tells(t, all, "/[*]", "/*")
	tells(t, all, `/\?`, "/?")
	tells(t, all, `/\[`, "/[")
	tells(t, all, "/[[]", "/[")
	tells(t, all, "/]", "/]")
	tells(t, all, "/!", "/!")
	tells(t, all, "/-", "/-")
	tells(t, all, "/[a]", "/a")
	tells(t, all, `/\[a]`, "/[a]")
	tells(t, all, `/[[]a[\]]`, "/[a]")
	tells(t, all, `/\\`, `/\`)
	tells(t, all, `/\\\*`, `/\*`)
	tells(t, all, `/\\*`, `/\`, `/\*`, `/\a`)
	tells(t, all, `/\a`, "/a")
	tells(t, all, `/\\a`, `/\a`)
	tells(t, all, "/a*b", "/a*b", "/ab")
	tells(t, all, `/a\*b`, "/a*b")
	tells(t, all, "/a-c", "/a-c")
	tells(t, all, "/[a-c]", "/a")
	tells(t, all, `/\[*`, "/[", "/[a]", "/[ab")
	refuses(t, all, "/[ab", api.ErrPattern)
	tells(t, all, `/\[ab`, "/[ab")
}

// P23.3: bytes are meant, not signs.
func TestNamesOfBytes(t *testing.T) {
	all := laid(t, "/\u00e9", "/\xe9", "/\xff\xfe", "/\x01", "/\x7f/", "/\x7f/\x80")
	tells(t, all, "/?", "/\x01", "/\x7f", "/\xe9")
	tells(t, all, "/??", "/\u00e9", "/\xff\xfe")
	tells(t, all, "/[\x80-\xff]", "/\xe9")
	tells(t, all, "/[!\x80-\xff]", "/\x01", "/\x7f")
	tells(t, all, "/*", "/\x01", "/\x7f", "/\u00e9", "/\xe9", "/\xff\xfe")
	tells(t, all, "/\u00e9", "/\u00e9")
	tells(t, all, "/\xe9", "/\xe9")
	tells(t, all, "/**/[\x80]", "/\x7f/\x80")
}

// P23.3: the order is that of the names, not of the paths' bytes: a path ahead of those that go on from it, and these ahead of a name that begins with its last one.
func TestOrder(t *testing.T) {
	things := []string{"/a.b", "/a!", "/a/", "/a/b/", "/a/b/c", "/a/b!", "/a!b", "/a\x01", "/a-", "/a0", "/A", "/b", "/\xff", "/\x7f", "/\x80", "/a/\xff", "/a/0"}
	want := []string{"/", "/A", "/a", "/a/0", "/a/b", "/a/b/c", "/a/b!", "/a/\xff", "/a\x01", "/a!", "/a!b", "/a-", "/a.b", "/a0", "/b", "/\x7f", "/\x80", "/\xff"}
	for range 2 {
		all := laid(t, things...)
		tells(t, all, "/**", want...)
		tells(t, all, "/**/*", want[1:]...)
		tells(t, all, "/a*", "/a", "/a\x01", "/a!", "/a!b", "/a-", "/a.b", "/a0")
		tells(t, all, "/a*/**", "/a", "/a/0", "/a/b", "/a/b/c", "/a/b!", "/a/\xff", "/a\x01", "/a!", "/a!b", "/a-", "/a.b", "/a0")
		// The directories come first, so that what goes below them finds them.
		things = slices.Concat([]string{"/a/", "/a/b/"}, reversed(things, "/a/", "/a/b/"))
	}
}

// reversed is a list from the last one on, some left out.
func reversed(l []string, but ...string) []string {
	var r []string
	for _, s := range slices.Backward(l) {
		if !slices.Contains(but, s) {
			r = append(r, s)
		}
	}
	return r
}

// P23.3: a directory of many names; some of them taken away and made anew, so that their cells stand otherwise than their names.
func TestManyNames(t *testing.T) {
	things := []string{"/d/", "/f"}
	var names []string
	for k := range 300 {
		name := fmt.Sprintf("/d/%c%d", 'a'+k%26, k*7%300)
		names = append(names, name)
		things = append(things, name+"&/f")
	}
	all := laid(t, things...)
	for _, f := range all {
		for k := 0; k < len(names); k += 3 {
			if a := f.Do(api.Call{Kind: api.CallUnlink, Path: names[k]}); a.Err != api.OK {
				t.Fatal(a.Err)
			}
		}
		for k := 0; k < len(names); k += 6 {
			lays(t, f, names[k]+"&/f")
		}
	}
	var want, ofA []string
	for k, s := range names {
		if k%6 != 3 {
			want = append(want, s)
		}
	}
	slices.Sort(want)
	for _, s := range want {
		if s[3] == 'a' {
			ofA = append(ofA, s)
		}
	}
	tells(t, all, "/d/*", want...)
	tells(t, all, "/**", slices.Concat([]string{"/", "/d"}, want, []string{"/f"})...)
	tells(t, all, "/*/a*", ofA...)
}

// P23.3: a file system without a name.
func TestEmptyTree(t *testing.T) {
	all := laid(t)
	tells(t, all, "/", "/")
	tells(t, all, "/**", "/")
	tells(t, all, "/**/**", "/")
	for _, p := range []string{"/*", "/a", "/**/*", "/*/**", "/.", "/.."} {
		tells(t, all, p)
	}
}

// W5: what is told is what stands now: behind each change another answer, and nothing is kept of the one ahead.
func TestAsItStands(t *testing.T) {
	all := laid(t, exampleTree()...)
	do := func(c api.Call) {
		t.Helper()
		for kind, f := range all {
			if a := f.Do(c); a.Err != api.OK {
				t.Fatalf("%s: %v: %d", kind, c, a.Err)
			}
		}
	}
	tells(t, all, "/**/b", "/a/b", "/a/c/b", "/b")
	do(api.Call{Kind: api.CallUnlink, Path: "/b"})
	tells(t, all, "/**/b", "/a/b", "/a/c/b")
	do(api.Call{Kind: api.CallRename, Path: "/a", Other: "/z"})
	tells(t, all, "/**/b", "/z/b", "/z/c/b")
	tells(t, all, "/*", "/l", "/z")
	do(api.Call{Kind: api.CallMkdir, Path: "/a"})
	do(api.Call{Kind: api.CallLink, Path: "/z/b", Other: "/a/b"})
	tells(t, all, "/**/b", "/a/b", "/z/b", "/z/c/b")
	do(api.Call{Kind: api.CallUnlink, Path: "/l"})
	do(api.Call{Kind: api.CallMkdir, Path: "/l"})
	do(api.Call{Kind: api.CallCreate, Path: "/l/b"})
	tells(t, all, "/l/*", "/l/b")
	tells(t, all, "/**/b", "/a/b", "/l/b", "/z/b", "/z/c/b")
}
