package walk_test

import (
	"testing"

	"bole/api"
	"bole/walk"
)

// P16.1: the chapter's first example.
func TestExample1(t *testing.T) {
	w := example(t)
	w.to("/", itself(1))
	w.to("/a", place("a", 2, 1))
	w.to("/a/b/f", place("f", 4, 1, 2, 3))
	w.to("/a/b/..", itself(1, 2))
	w.to("/..", itself(1))
}

func TestExample2(t *testing.T) {
	w := example(t)
	w.toward("/l", false, place("l", 5, 1), api.OK)
	w.toward("/l", true, place("b", 3, 1, 2), api.OK)
	w.to("/l/f", place("f", 4, 1, 2, 3))
	w.to("/l/..", itself(1, 2))
}

func TestExample3(t *testing.T) {
	w := example(t)
	w.toward("/a/up", true, itself(1), api.OK)
	w.to("/a/up/a", place("a", 2, 1))
	w.to("/a/b/top/l/f", place("f", 4, 1, 2, 3))
}

func TestExample4(t *testing.T) {
	w := example(t)
	for _, s := range []string{"/x", "/x/y", "/a/x/.."} {
		w.noTo(s, api.ErrNone)
	}
	for _, s := range []string{"/a/b/f/x", "/a/b/f/.."} {
		w.noTo(s, api.ErrNotDir)
	}
	w.to("/a/b/f/.", place("f", 4, 1, 2, 3))
	w.toward("/loop", false, place("loop", 7, 1), api.OK)
	w.toward("/loop", true, walk.Place{}, api.ErrLoop)
	w.noTo("/loop/x", api.ErrLoop)
	w.noTo("a", api.ErrInval)
}

// P16.2.
func TestExample5(t *testing.T) {
	w := example(t)
	w.make("/a/x", place("x", 0, 1, 2))
	w.make("/a/b", place("b", 3, 1, 2))
	w.make("/l/x", place("x", 0, 1, 2, 3))
	w.make("/loop", place("loop", 7, 1))
	w.make("/", itself(1))
	w.noMake("/a/..", api.ErrInval)
	w.noMake("/x/y", api.ErrNone)
	w.noMake("/a/b/f/x", api.ErrNotDir)
}

// P16.3.
func TestExample6(t *testing.T) {
	w := example(t)
	w.height("the example's", 1, 3)
	w.height("the example's", 2, 2)
	w.height("the example's", 3, 1)
	w.noHeight("a file", 4, api.ErrNotDir)
	w.noHeight("no inode", 0, api.ErrInode)
	w.noHeight("free", 9, api.ErrNotDir)
}

// P16.5: none of the examples' calls puts anything, or has a step; the same is told behind a commit.
func TestExamplesPutNothing(t *testing.T) {
	w := example(t)
	for range 2 {
		w.still(func() {
			for _, s := range []string{"/", "/a", "/a/b/f", "/a/b/..", "/..", "/l", "/l/f", "/a/up/a", "/a/b/top/l/f", "/x/y", "/a/b/f/x", "/loop", "a"} {
				walk.To(w.x, w.g, s, true)
				walk.To(w.x, w.g, s, false)
				walk.Make(w.x, w.g, s)
			}
			for n := range 17 {
				walk.Height(w.x, w.g, n)
			}
			w.to("/l/f", place("f", 4, 1, 2, 3))
			w.make("/l/x", place("x", 0, 1, 2, 3))
			w.height("the example's", 1, 3)
		})
		w.again()
	}
}
