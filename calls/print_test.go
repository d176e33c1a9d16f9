package calls_test

import (
	"testing"

	"bole/api"
	"bole/calls"
)

// fullCall is a call of a Kind with something in each field.
func fullCall(kind int) api.Call {
	return api.Call{Kind: kind, Path: "/p", Other: "/o", Offset: 5, Size: -6, Data: "d"}
}

// P25.3: each Kind's row.
func TestPrintEveryKind(t *testing.T) {
	for kind, want := range map[int]string{
		api.CallCreate:   "create /p",
		api.CallMkdir:    "mkdir /p",
		api.CallRead:     "read /p 5 -6",
		api.CallWrite:    "write /p 5 d",
		api.CallTruncate: "truncate /p -6",
		api.CallUnlink:   "unlink /p",
		api.CallRmdir:    "rmdir /p",
		api.CallRename:   "rename /p /o",
		api.CallLink:     "link /p /o",
		api.CallSymlink:  "symlink /o /p",
		api.CallReadlink: "readlink /p",
		api.CallStat:     "stat /p",
		api.CallLstat:    "lstat /p",
		api.CallReaddir:  "readdir /p",
		api.CallRoom:     "room",
	} {
		prints(t, fullCall(kind), want)
	}
	for kind, want := range map[int]string{
		api.CallCreate:   `create ""`,
		api.CallMkdir:    `mkdir ""`,
		api.CallRead:     `read "" 0 0`,
		api.CallWrite:    `write "" 0 ""`,
		api.CallTruncate: `truncate "" 0`,
		api.CallUnlink:   `unlink ""`,
		api.CallRmdir:    `rmdir ""`,
		api.CallRename:   `rename "" ""`,
		api.CallLink:     `link "" ""`,
		api.CallSymlink:  `symlink "" ""`,
		api.CallReadlink: `readlink ""`,
		api.CallStat:     `stat ""`,
		api.CallLstat:    `lstat ""`,
		api.CallReaddir:  `readdir ""`,
		api.CallRoom:     "room",
	} {
		prints(t, api.Call{Kind: kind}, want)
	}
}

// P25.3: what is no Kind, whatever the fields are.
func TestPrintNoKind(t *testing.T) {
	for _, kind := range noKinds() {
		printsNot(t, api.Call{Kind: kind})
		printsNot(t, fullCall(kind))
	}
}

// P25.3: each field at its edges.
func TestPrintEdges(t *testing.T) {
	for _, kind := range allKinds() {
		for _, s := range edgeTexts() {
			for _, c := range []api.Call{{Path: s}, {Other: s}, {Data: s}, {Path: s, Other: s, Data: s}, {Path: "/p", Other: s, Data: "d", Offset: 1, Size: 2}} {
				c.Kind = kind
				want, _ := plainPrint(c)
				prints(t, c, want)
			}
		}
		for _, v := range edgeNumbers() {
			for _, c := range []api.Call{{Offset: v}, {Size: v}, {Offset: v, Size: v}, {Path: "/p", Offset: v, Size: 3, Data: " "}} {
				c.Kind = kind
				want, _ := plainPrint(c)
				prints(t, c, want)
			}
		}
	}
	prints(t, api.Call{Kind: api.CallRead, Path: "a\nb", Offset: -1 << 63, Size: 1<<63 - 1}, `read "a\x0ab" -9223372036854775808 9223372036854775807`)
	prints(t, api.Call{Kind: api.CallWrite, Path: `"`, Offset: 1<<63 - 1, Data: " \n"}, `write "\"" 9223372036854775807 " \x0a"`)
	prints(t, api.Call{Kind: api.CallTruncate, Path: `\`, Size: -1 << 63}, `truncate "\\" -9223372036854775808`)
}

// P25.3: what isn't the Kind's is not looked at: no such field changes the row.
func TestPrintOtherFields(t *testing.T) {
	for _, kind := range allKinds() {
		full := bare(fullCall(kind))
		want, e := calls.Print(full)
		if e != api.OK {
			t.Fatalf("P25.3: Print(%+v): %d", full, e)
		}
		for _, x := range []api.Call{{Path: "other"}, {Other: "other"}, {Data: "other"}, {Offset: 99}, {Size: 99}} {
			c := full
			if c.Path == "" {
				c.Path = x.Path
			}
			if c.Other == "" {
				c.Other = x.Other
			}
			if c.Data == "" {
				c.Data = x.Data
			}
			if c.Offset == 0 {
				c.Offset = x.Offset
			}
			if c.Size == 0 {
				c.Size = x.Size
			}
			prints(t, c, want)
		}
	}
}

// P25.3: words and numbers don't change places: each place of each row says its own field.
func TestPrintPlaces(t *testing.T) {
	prints(t, api.Call{Kind: api.CallSymlink, Path: "/l", Other: "text"}, "symlink text /l")
	prints(t, api.Call{Kind: api.CallRename, Path: "/old", Other: "/new"}, "rename /old /new")
	prints(t, api.Call{Kind: api.CallLink, Path: "/old", Other: "/new"}, "link /old /new")
	prints(t, api.Call{Kind: api.CallRead, Path: "0", Offset: 1, Size: 2}, "read 0 1 2")
	prints(t, api.Call{Kind: api.CallWrite, Path: "0", Offset: 1, Data: "2"}, "write 0 1 2")
	prints(t, api.Call{Kind: api.CallTruncate, Path: "0", Offset: 1, Size: 2}, "truncate 0 2")
}
