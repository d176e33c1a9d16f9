package calls_test

import (
	"testing"

	"bole/api"
)

// P25.1: the chapter's example 1.
func TestExampleQuote(t *testing.T) {
	quotes(t, "/a/b-c.d_9", "/a/b-c.d_9")
	quotes(t, "", `""`)
	quotes(t, "a b", `"a b"`)
	quotes(t, "a\"\\\n\xff", `"a\"\\\x0a\xff"`)
}

// P25.2: the chapter's example 2.
func TestExampleUnquote(t *testing.T) {
	says(t, `"\x41"`, "A")
	says(t, `"a"`, "a")
	for _, w := range []string{"", "a b", `"`, `"a`, `"\n"`, `"\x4"`, `a"`, "\"\n\""} {
		noWord(t, w)
	}
}

// P25.3: the chapter's example 3.
func TestExamplePrint(t *testing.T) {
	prints(t, api.Call{Kind: api.CallWrite, Path: "/a b", Offset: 5, Data: "x"}, `write "/a b" 5 x`)
	printsNot(t, api.Call{Kind: 16})
	printsNot(t, api.Call{})
	prints(t, api.Call{Kind: api.CallRoom, Path: "/x"}, "room")
}

// P25.4: the chapter's example 4.
func TestExampleParse(t *testing.T) {
	for _, line := range []string{" read  /a -1 007", "read /a 1", "read /a 1 2 3", "reads /a 1 2", "", "read /a -0 1", "read /a 9223372036854775808 1", "room x", `read "/a"1 2`, `"room"`} {
		noRow(t, line)
	}
	isRow(t, `  read "/a" -1   7 `, api.Call{Kind: api.CallRead, Path: "/a", Offset: -1, Size: 7})
	isRow(t, "symlink ../a /l", api.Call{Kind: api.CallSymlink, Path: "/l", Other: "../a"})
}

// P25.5: the chapter's example 5.
func TestExampleTell(t *testing.T) {
	tells(t, api.Call{Kind: api.CallRead}, api.Answer{Data: "a b"}, `"a b"`)
	tells(t, api.Call{Kind: api.CallRead}, api.Answer{Data: "a b", Err: api.ErrNone}, "! E160")
	tells(t, api.Call{Kind: api.CallStat}, api.Answer{Stat: api.Stat{Inode: 3, Kind: 1, Links: 1, Size: 700, Blocks: 2}}, "3 1 1 700 2")
	tells(t, api.Call{Kind: api.CallReaddir}, api.Answer{Names: []string{"b", "a b"}}, "2\nb\n\"a b\"")
	tells(t, api.Call{Kind: api.CallReaddir}, api.Answer{}, "0")
	tells(t, api.Call{Kind: api.CallUnlink}, api.Answer{N: 7}, "ok")
}
