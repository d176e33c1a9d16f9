package pack

import (
	"slices"
	"strings"

	"bole/api"
	"bole/path"
	"bole/rec"
)

// rights is what must hold, by its Kind, of what is in an item that is no earlier one's inode.
func rights() map[int]func(x Item) bool {
	return map[int]func(x Item) bool{
		api.KindFile: isRightFile,
		api.KindDir:  isBare,
		api.KindLink: isRightLink,
	}
}

// isBare tells whether nothing is in an item.
func isBare(x Item) bool {
	return x.Size == 0 && x.Data == "" && len(x.Pieces) == 0
}

func isRightLink(x Item) bool {
	_, _, e := path.Text(x.Data)
	return e == api.OK && x.Size == len(x.Data) && len(x.Pieces) == 0
}

func isRightFile(x Item) bool {
	if x.Size < 0 || x.Size > api.MaxFile {
		return false
	}
	least, end := 0, (x.Size+piece-1)/piece
	left := x.Data
	for _, p := range x.Pieces {
		if p < least || p >= end {
			return false
		}
		n := pieceLen(x.Size, p)
		if n > len(left) || isZero(left[:n]) {
			return false
		}
		least, left = p+1, left[n:]
	}
	return left == ""
}

func isZero(s string) bool {
	// All of a text lies in it.
	zero, _ := rec.Zero([]byte(s), 0, len(s))
	return zero
}

// checker asks the items of a list, one behind the other, whether each may stand behind those ahead of it.
type checker struct {
	rights map[int]func(x Item) bool
	names  []string            // those of the last Path
	dirs   map[string]struct{} // the Paths of the directories
}

func newChecker() *checker {
	return &checker{rights: rights(), dirs: map[string]struct{}{}}
}

// takes asks the next item.
func (c *checker) takes(ahead []Item, x Item) bool {
	right, known := c.rights[x.Kind]
	if !known || !c.takesPath(len(ahead), x.Path) {
		return false
	}
	if x.Kind == api.KindDir {
		c.dirs[x.Path] = struct{}{}
	}
	if x.Same == none {
		return right(x)
	}
	return isSame(ahead, x) && isBare(x)
}

func (c *checker) takesPath(number int, p string) bool {
	if number == 0 {
		return p == top
	}
	// Where there are more than may be, the last one has a slash.
	names := strings.SplitN(p, slash, api.MaxParts)
	if slices.ContainsFunc(names, isNoName) || slices.Compare(names, c.names) <= 0 {
		return false
	}
	c.names = names
	// A directory stands ahead of what is in it, so it is known by now.
	_, known := c.dirs[above(p)]
	return known
}

func isNoName(s string) bool { return !path.Name(s) }

// above is the Path of the directory in which a name stands.
func above(p string) string { return p[:max(strings.LastIndex(p, slash), 0)] }

// isSame tells whether the item that x names as its Same may be that. (No directory has two names.)
func isSame(ahead []Item, x Item) bool {
	if x.Same < 0 || x.Same >= len(ahead) {
		return false
	}
	first := ahead[x.Same]
	return first.Same == none && first.Kind == x.Kind && x.Kind != api.KindDir
}

func isRight(l []Item) bool {
	c := newChecker()
	for i, x := range l {
		if !c.takes(l[:i], x) {
			return false
		}
	}
	return len(l) > 0
}
