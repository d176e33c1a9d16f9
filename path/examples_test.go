package path_test

import (
	"testing"

	"bole/api"
)

// P13.1: the chapter's example 1.
func TestParseExample(t *testing.T) {
	wantParse(t, "/", nil, api.OK)
	wantParse(t, "//a/./b///..", []string{"a", "b", ".."}, api.OK)
	for _, s := range []string{"", "a", "/a\x00"} {
		wantParse(t, s, nil, api.ErrInval)
	}
	for _, s := range []string{"/" + rep("x", 28), rep("/x", 33), rep("/", 1025)} {
		wantParse(t, s, nil, api.ErrTooLong)
	}
	wantParse(t, rep("/.", 33), nil, api.OK)
	wantParse(t, rep("x", 1025), nil, api.ErrInval)
}

// P13.2: the chapter's example 2.
func TestTextExample(t *testing.T) {
	wantText(t, "a/../b", []string{"a", "..", "b"}, false, api.OK)
	wantText(t, "/", nil, true, api.OK)
	wantText(t, ".", nil, false, api.OK)
	wantText(t, "", nil, false, api.ErrInval)
	wantText(t, rep("/", 1024), nil, true, api.OK)
}

// P13.3: the chapter's example 3.
func TestMakeExample(t *testing.T) {
	wantMake(t, "/a/b//", []string{"a"}, "b", api.OK)
	wantMake(t, "/", nil, "", api.OK)
	for _, s := range []string{"/a/.", "/..", "/./"} {
		wantMake(t, s, nil, "", api.ErrInval)
	}
	wantMake(t, "/../a", []string{".."}, "a", api.OK)
	wantMake(t, "/"+rep("x", 28)+"/.", nil, "", api.ErrInval)
	wantMake(t, "/"+rep("x", 28)+"/", nil, "", api.ErrTooLong)
}

// P13.4: the chapter's example 4.
func TestJoinExample(t *testing.T) {
	wantJoin(t, []string{"a", ".."}, "/a/..", api.OK)
	wantJoin(t, nil, "/", api.OK)
	wantJoin(t, []string{}, "/", api.OK)
	for _, p := range []string{"", ".", "a/b"} {
		wantJoin(t, []string{p}, "", api.ErrInval)
	}
	wantJoin(t, []string{rep("x", 28)}, "", api.ErrTooLong)
	wantJoin(t, many("x", 33), "", api.ErrTooLong)
	wantJoin(t, []string{rep("x", 28), ""}, "", api.ErrInval)
}

// P13.5: the chapter's example 5.
func TestCleanExample(t *testing.T) {
	wantClean(t, "/a/../../b/./c/", "/b/c", api.OK)
	wantClean(t, "/..", "/", api.OK)
}

// P13.6: the chapter's example 6.
func TestNameExample(t *testing.T) {
	for _, s := range []string{"a", "...", " "} {
		wantName(t, s, true)
	}
	for _, s := range []string{"", ".", "..", "a/b", rep("x", 28)} {
		wantName(t, s, false)
	}
}
