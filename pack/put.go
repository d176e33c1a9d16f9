package pack

import "bole/api"

// making is the calls that make, by its Kind, an item that is no earlier one's inode.
func making() map[int]func(at string, x Item) []api.Call {
	return map[int]func(at string, x Item) []api.Call{
		api.KindFile: makeFile,
		api.KindDir:  makeDir,
		api.KindLink: makeLink,
	}
}

func makeDir(at string, _ Item) []api.Call {
	return []api.Call{{Kind: api.CallMkdir, Path: at}}
}

func makeLink(at string, x Item) []api.Call {
	return []api.Call{{Kind: api.CallSymlink, Path: at, Other: x.Data}}
}

func makeFile(at string, x Item) []api.Call {
	calls := []api.Call{{Kind: api.CallCreate, Path: at}}
	end, left := 0, x.Data
	for _, p := range x.Pieces {
		n := pieceLen(x.Size, p)
		calls = append(calls, api.Call{Kind: api.CallWrite, Path: at, Offset: piece * p, Data: left[:n]})
		end, left = piece*p+n, left[n:]
	}
	if x.Size > end {
		calls = append(calls, api.Call{Kind: api.CallTruncate, Path: at, Size: x.Size})
	}
	return calls
}

// makeName is the call that makes one more name of what is at an earlier item's path.
func makeName(earlier, at string) []api.Call {
	return []api.Call{{Kind: api.CallLink, Path: earlier, Other: at}}
}

// carryOut makes calls one behind the other, up to the first that is refused.
func carryOut(f api.Caller, calls []api.Call) api.Errno {
	for _, c := range calls {
		if a := f.Do(c); a.Err != api.OK {
			return a.Err
		}
	}
	return api.OK
}

// Put makes a tree of items at a path that isn't there.
func Put(f api.Caller, s string, l []Item) api.Errno {
	if !isRight(l) {
		return api.ErrPack
	}
	makes := making()
	for _, x := range l {
		at := pathAt(s, x.Path)
		var calls []api.Call
		if x.Same == none {
			calls = makes[x.Kind](at, x)
		} else {
			calls = makeName(pathAt(s, l[x.Same].Path), at)
		}
		if e := carryOut(f, calls); e != api.OK {
			return e
		}
	}
	return api.OK
}
