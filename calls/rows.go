package calls

import (
	"strconv"

	"bole/api"
)

// place is a place of a row behind its command: how the field that it says is written there, and how it is read.
type place struct {
	write func(c *api.Call) string
	read  func(c *api.Call, w string) api.Errno
}

// placeOf is the place of a field whose values are written and read so.
func placeOf[V any](field func(c *api.Call) *V, write func(v V) string, read func(w string) (V, api.Errno)) place {
	return place{
		write: func(c *api.Call) string { return write(*field(c)) },
		read: func(c *api.Call, w string) api.Errno {
			v, e := read(w)
			*field(c) = v
			return e
		},
	}
}

func word(field func(c *api.Call) *string) place { return placeOf(field, Quote, Unquote) }

func number(field func(c *api.Call) *int) place { return placeOf(field, strconv.Itoa, readNumber) }

func pathOf(c *api.Call) *string  { return &c.Path }
func otherOf(c *api.Call) *string { return &c.Other }
func dataOf(c *api.Call) *string  { return &c.Data }
func offsetOf(c *api.Call) *int   { return &c.Offset }
func sizeOf(c *api.Call) *int     { return &c.Size }

// row is a Kind's command, what stands behind it, and what a good answer is told as.
type row struct {
	kind    int
	command string
	places  []place
	told    func(a api.Answer) string
}

func rows() []row {
	path, other, data := word(pathOf), word(otherOf), word(dataOf)
	offset, size := number(offsetOf), number(sizeOf)
	return []row{
		{api.CallCreate, "create", []place{path}, tellNumber},
		{api.CallMkdir, "mkdir", []place{path}, tellNumber},
		{api.CallRead, "read", []place{path, offset, size}, tellData},
		{api.CallWrite, "write", []place{path, offset, data}, tellNumber},
		{api.CallTruncate, "truncate", []place{path, size}, tellDone},
		{api.CallUnlink, "unlink", []place{path}, tellDone},
		{api.CallRmdir, "rmdir", []place{path}, tellDone},
		{api.CallRename, "rename", []place{path, other}, tellDone},
		{api.CallLink, "link", []place{path, other}, tellDone},
		{api.CallSymlink, "symlink", []place{other, path}, tellNumber},
		{api.CallReadlink, "readlink", []place{path}, tellData},
		{api.CallStat, "stat", []place{path}, tellStat},
		{api.CallLstat, "lstat", []place{path}, tellStat},
		{api.CallReaddir, "readdir", []place{path}, tellNames},
		{api.CallRoom, "room", nil, tellRoom},
	}
}

// commands is the rows by their commands.
func commands() map[string]row {
	m := map[string]row{}
	for _, r := range rows() {
		m[r.command] = r
	}
	return m
}

func rowOf(kind int) (row, bool) {
	for _, r := range rows() {
		if r.kind == kind {
			return r, true
		}
	}
	return row{}, false
}
