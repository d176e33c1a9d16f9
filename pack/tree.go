package pack

import (
	"strings"

	"bole/api"
	"bole/rec"
)

// refusal is what Tree gives up with, where a call is refused.
type refusal struct{ why api.Errno }

// whyGivenUp is that out of what recover answered. What is no refusal goes on as a panic.
func whyGivenUp(caught any) api.Errno {
	r, is := caught.(refusal)
	if !is {
		panic(caught)
	}
	return r.why
}

// asker carries out a call of a file system, and gives up if it is refused.
type asker func(c api.Call) api.Answer

func asks(f api.Caller) asker {
	return func(c api.Call) api.Answer {
		a := f.Do(c)
		if a.Err != api.OK {
			panic(refusal{a.Err})
		}
		return a
	}
}

// reading is how, by its Kind, what is in a thing comes into its item; the answer is the names that it has.
func reading() map[int]func(ask asker, at string, st api.Stat, x *Item) []string {
	return map[int]func(ask asker, at string, st api.Stat, x *Item) []string{
		api.KindFile: readFile,
		api.KindDir:  readDir,
		api.KindLink: readLink,
	}
}

func readDir(ask asker, at string, _ api.Stat, _ *Item) []string {
	return ask(api.Call{Kind: api.CallReaddir, Path: at}).Names
}

func readLink(ask asker, at string, _ api.Stat, x *Item) []string {
	x.Data = strings.Clone(ask(api.Call{Kind: api.CallReadlink, Path: at}).Data)
	x.Size = len(x.Data)
	return nil
}

func readFile(ask asker, at string, st api.Stat, x *Item) []string {
	x.Size = st.Size
	var data []byte
	// A file without bytes is read too: each is asked for by CallRead.
	for off := 0; off == 0 || off < x.Size; off += api.MaxIO {
		b := []byte(ask(api.Call{Kind: api.CallRead, Path: at, Offset: off, Size: api.MaxIO}).Data)
		for i := 0; i < len(b); i += piece {
			n := min(piece, len(b)-i)
			if zero, _ := rec.Zero(b, i, n); zero {
				continue
			}
			x.Pieces = append(x.Pieces, (off+i)/piece)
			data = append(data, b[i:i+n]...)
		}
	}
	x.Data = string(data)
	return nil
}

// inside is the Path of a name in the directory whose Path is p.
func inside(p, name string) string {
	if p == top {
		return strings.Clone(name)
	}
	return p + slash + name
}

// Tree is a tree's items.
func Tree(f api.Caller, s string) (l []Item, e api.Errno) {
	defer func() {
		if caught := recover(); caught != nil {
			l, e = nil, whyGivenUp(caught)
		}
	}()
	ask, read := asks(f), reading()
	met := map[int]int{} // by inode: the first item that is it
	var add func(p string)
	add = func(p string) {
		at := pathAt(s, p)
		st := ask(api.Call{Kind: api.CallLstat, Path: at}).Stat
		x := Item{Path: p, Kind: st.Kind, Same: none}
		if first, is := met[st.Inode]; is {
			x.Same = first
			l = append(l, x)
			return
		}
		met[st.Inode] = len(l)
		names := read[st.Kind](ask, at, st, &x)
		l = append(l, x)
		for _, name := range names {
			add(inside(p, name))
		}
	}
	add(top)
	return l, api.OK
}
