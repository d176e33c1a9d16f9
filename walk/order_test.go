package walk_test

import (
	"fmt"
	"maps"
	"slices"
	"strings"
	"testing"

	"bole/api"
	"bole/walk"
)

// scene is things of which some are wrong; each inode's record stands in a block of its own.
type scene struct {
	things map[int]thing
	raw    map[int]bool // whose bytes are no record
	blind  []int        // blocks that can't be read
}

// spoil makes a thing wrong, and tells the error of it. The faults of a thing: its table can't be read, its bytes are no record, it is a file; its first number leads nowhere, that block can't be read, its cells can't be; its text has a zero byte, or is too long; the name at a place of it is gone.
func (s *scene) spoil(fault string) api.Errno {
	var word string
	var n, place int
	fmt.Sscan(fault, &word, &n, &place)
	o := s.things[n]
	o.b = slices.Clone(o.b)
	code := map[string]api.Errno{"table": api.ErrDown, "record": api.ErrRecord, "file": api.ErrNotDir, "number": api.ErrPointer, "block": api.ErrDown, "cells": api.ErrCell, "zero": api.ErrInval, "long": api.ErrTooLong, "gone": api.ErrNone}[word]
	switch word {
	case "table":
		s.blind = append(s.blind, 99+n/8)
	case "record":
		s.raw[n] = true
	case "file":
		o.x.Kind = 1
	case "number":
		o.x.Direct[0] = 99
	case "block":
		s.blind = append(s.blind, at(n, 0))
	case "cells":
		o.b[511] = 1
	case "zero":
		o.b[0] = 0
	case "long":
		copy(o.b[3:], rep("x", 28))
	case "gone":
		o.b = withCell(o.b, place, api.Entry{})
	}
	s.things[n] = o
	return code
}

// laid lays it on a disk whose power is out, with all put that is to be read.
func (s *scene) laid(t *testing.T) *world {
	t.Helper()
	w := laid(t, s.things)
	for n := range s.raw {
		w.noRecord(n)
	}
	if w.g.Inodes != 99 {
		t.Fatalf("the table begins at %d", w.g.Inodes)
	}
	keep := []int{}
	for n := range s.things {
		keep = append(keep, 99+n/8, at(n, 0))
	}
	x := w.x
	for _, i := range keep {
		w.lay(i, w.block(i))
	}
	// What is put can't be unreadable: so all is put anew, but for what is blind.
	bytes := map[int][]byte{}
	for _, i := range x.Written() {
		bytes[i] = w.block(i)
	}
	if e := x.Back(0); e != api.OK {
		t.Fatalf("Back: %d", e)
	}
	for i, b := range bytes {
		if !slices.Contains(s.blind, i) {
			w.lay(i, b)
		}
	}
	w.d.Crash(nil)
	return w
}

// text is a link's text with a component that may grow too long, all in one block.
func text(s string) thing { return linkTo(s + rep("/", 40) + rep("./", 20)) }

// way is a walk: /a is a directory, /a/l a link to ../b, /b a directory, /b/c one, in which f is a link to /g, a file.
func way() *scene {
	return &scene{things: map[int]thing{
		1: folder(has("a", 9), has("b", 25), has("g", 49)), 9: folder(has("x", 57), has("l", 17)), 17: text("../b"), 25: folder(has("c", 33)), 33: folder(has("f", 41)), 41: text("/g"), 49: plainFile("x"), 57: plainFile("y"),
	}, raw: map[int]bool{}}
}

// wayFaults are all that can be wrong on the way, as they are met. Behind 'file' of the last directory only Make and To differ.
var wayFaults = strings.Split("table 1|record 1|file 1|number 1|block 1|cells 1|gone 1 0|table 9|record 9|file 9|number 9|block 9|cells 9|gone 9 1|table 17|record 17|file 17|number 17|block 17|zero 17|long 17|gone 1 1|table 25|record 25|file 25|number 25|block 25|cells 25|gone 25 0|table 33|record 33|file 33|number 33|block 33|cells 33|gone 33 0|table 41|record 41|number 41|block 41|zero 41|long 41|gone 1 2|table 49|record 49", "|")

// before tells whether a fault is met ahead of another one, or is that.
func before(faults []string, fault, last string) bool {
	return slices.Index(faults, fault) <= slices.Index(faults, last)
}

// P16.1, P16.2: each one fault, and each two: the one that is met first is told, and one that isn't met is none.
func TestFirstFault(t *testing.T) {
	const s = "/a/l/c/f"
	for i, a := range wayFaults {
		for _, b := range wayFaults[i:] {
			scene := way()
			code := scene.spoil(a)
			scene.spoil(b)
			w := scene.laid(t)
			w.toward(s, true, walk.Place{}, code)
			if before(wayFaults, a, "record 41") {
				w.toward(s, false, walk.Place{}, code)
			} else {
				w.toward(s, false, place("f", 41, 1, 25, 33), api.OK)
			}
			switch {
			case before(wayFaults, a, "cells 33"):
				w.noMake(s, code)
			case a == "gone 33 0":
				w.make(s, place("f", 0, 1, 25, 33))
			default:
				w.make(s, place("f", 41, 1, 25, 33))
			}
		}
	}
	w := way().laid(t)
	w.still(func() {
		w.toward(s, true, place("g", 49, 1), api.OK)
		w.toward(s, false, place("f", 41, 1, 25, 33), api.OK)
		w.make(s, place("f", 41, 1, 25, 33))
	})
}

// P16.1: what is wrong with a thing that the walk ends at, or doesn't come by, is no matter; nor what stands in a directory behind the name's block.
func TestFaultsBesideTheWay(t *testing.T) {
	for _, fault := range []string{"number 33", "block 33", "cells 33", "number 41", "table 41", "record 41", "zero 41", "table 49", "record 49", "table 57", "record 57", "gone 33 0", "gone 1 2"} {
		scene := way()
		scene.spoil(fault)
		w := scene.laid(t)
		w.to("/a/l/c", place("c", 33, 1, 25))
		w.to("/a/l/c/..", itself(1, 25))
		w.to("/b/c/..", itself(1, 25))
		w.make("/a/l/c", place("c", 33, 1, 25))
		w.make("/a/l/z", place("z", 0, 1, 25))
	}
	for _, fault := range []string{"number 17", "block 17", "zero 17", "long 17", "number 57", "block 57", "table 25"} {
		scene := way()
		scene.spoil(fault)
		w := scene.laid(t)
		w.toward("/a/l", false, place("l", 17, 1, 9), api.OK)
		w.make("/a/l", place("l", 17, 1, 9))
		w.to("/a/x", place("x", 57, 1, 9))
		w.noTo("/a/x/y", api.ErrNotDir)
		w.noTo("/a/x/..", api.ErrNotDir)
	}
}

// P16.1: the ninth link: its record is read ahead of ErrLoop, its text isn't.
func TestLoopFirst(t *testing.T) {
	links := func() *scene {
		s := &scene{things: map[int]thing{}, raw: map[int]bool{}}
		var l []api.Entry
		for i := range 10 {
			s.things[9+8*i] = text(linkName(i + 1))
			l = append(l, has(linkName(i), 9+8*i))
		}
		s.things[1] = folder(l...)
		return s
	}
	for _, fault := range []string{"number 73", "block 73", "zero 73", "long 73", "gone 1 9", "table 81", "record 81"} {
		s := links()
		s.spoil(fault)
		w := s.laid(t)
		w.toward("/k0", true, walk.Place{}, api.ErrLoop)
		w.noTo("/k0/x", api.ErrLoop)
		w.noMake("/k0/x", api.ErrLoop)
	}
	for _, fault := range []string{"table 73", "record 73", "gone 1 8", "number 65", "block 65", "zero 65", "long 65"} {
		s := links()
		code := s.spoil(fault)
		w := s.laid(t)
		w.toward("/k0", true, walk.Place{}, code)
		w.noTo("/k0/x", code)
		w.noMake("/k0/x", code)
	}
}

// tree is a directory, 9, over three levels: a (25) and b (17), directories, c (33), a file; in 17 x (41), a link, and y (49), a directory, in 25 w (49 again) and z (57), a file, whose places are the other way round; in 49 q (65), a file.
func tree() *scene {
	return &scene{things: map[int]thing{
		9: folder(has("c", 33), has("a", 25), has("b", 17)), 17: folder(has("y", 49), has("x", 41)), 25: folder(has("z", 57), has("w", 49)), 33: plainFile("x"), 41: text("/"), 49: folder(has("q", 65)), 57: plainFile("y"), 65: plainFile("z"),
	}, raw: map[int]bool{}}
}

// treeFaults are all that can be wrong with it, as they are met.
var treeFaults = strings.Split("table 9|record 9|file 9|number 9|block 9|cells 9|table 25|record 25|table 17|record 17|table 33|record 33|number 17|block 17|cells 17|table 41|record 41|table 49|record 49|number 25|block 25|cells 25|table 57|record 57|number 49|block 49|cells 49|table 65|record 65", "|")

// P16.3: each one fault, and each two: levels one behind the other, in each the directories by their numbers, of each the names by their bytes.
func TestFirstFaultOfHeight(t *testing.T) {
	for i, a := range treeFaults {
		for _, b := range treeFaults[i:] {
			s := tree()
			code := s.spoil(a)
			s.spoil(b)
			w := s.laid(t)
			w.noHeight(a+" and "+b, 9, code)
		}
	}
	w := tree().laid(t)
	w.still(func() { w.height("nothing wrong", 9, 3) })
}

// P16.3: what files and links hold isn't read; nor what the level behind the last one would be.
func TestNotReadByHeight(t *testing.T) {
	for _, fault := range []string{"number 33", "block 33", "number 41", "block 41", "zero 41", "long 41", "number 57", "block 57", "number 65", "block 65"} {
		s := tree()
		s.spoil(fault)
		s.laid(t).height(fault, 9, 3)
	}
	for fault, levels := range map[string]int{"gone 9 0": 3, "gone 9 1": 3, "gone 9 2": 3, "gone 17 0": 3, "gone 25 0": 3, "gone 49 0": 2, "file 17": 3, "file 25": 3, "file 49": 2} {
		s := tree()
		s.spoil(fault)
		s.laid(t).height(fault, 9, levels)
	}
}

// P16.1, P16.2: the errors of path.Parse and path.Make come ahead of all that the walk would meet, and of a transaction that can't be asked.
func TestPathsFirst(t *testing.T) {
	for how := range ends {
		w := example(t)
		w.noRecord(1)
		w.end(how)
		w.still(func() {
			for s, code := range noPaths {
				w.noTo(s, code)
				if s == rep("/.", 513) || s == rep("/..", 33) {
					code = api.ErrInval
				}
				w.noMake(s, code)
			}
		})
	}
}

// P16.1, P16.2: what the transaction says, where it is asked.
func TestWhatTheTransactionSays(t *testing.T) {
	for how, code := range ends {
		if code == api.OK {
			continue
		}
		w := example(t)
		w.again()
		w.end(how)
		w.still(func() {
			for _, s := range []string{"/a", "/x", "/a/b/f", "/../a", "/a/..", "/l", "/loop", "/l/x"} {
				w.noTo(s, code)
			}
			for _, s := range []string{"/a", "/x", "/a/b/f", "/../a", "/a/../x", "/l/x"} {
				w.noMake(s, code)
			}
		})
	}
	w := example(t)
	want(t, "Commit", w.x.Commit(), api.OK)
	w.noTo("/a", api.ErrOver)
	w.noMake("/a", api.ErrOver)
	w.noHeight("over", 1, api.ErrOver)
	w.to("/", itself(1))
	w.make("/", itself(1))
}

// W7: what is wrong in a directory behind the block of the name isn't met by Find; the whole directory is by Height, and by a name that isn't there.
func TestBehindTheBlock(t *testing.T) {
	l := many("n", 16, 3)
	o := folder(append(l, many("m", 16, 2)...)...)
	o.b[1023] = 1
	w := laid(t, map[int]thing{1: o, 2: folder(), 3: folder(has("f", 4)), 4: plainFile("")})
	w.still(func() {
		w.to("/n0", place("n0", 3, 1))
		w.to("/n15/f", place("f", 4, 1, 3))
		w.make("/n15/z", place("z", 0, 1, 3))
		w.make("/n15", place("n15", 3, 1))
		w.noTo("/m0", api.ErrCell)
		w.noTo("/x", api.ErrCell)
		w.noMake("/m0", api.ErrCell)
		w.noMake("/x", api.ErrCell)
		w.noMake("/x/y", api.ErrCell)
		w.noHeight("cells that can't be", 1, api.ErrCell)
		w.height("beside it", 3, 1)
	})
}

// The scenes' faults have names of things that are there.
func TestScenes(t *testing.T) {
	for _, s := range []*scene{way(), tree()} {
		for n := range maps.Keys(s.things) {
			if n != 1 && n%8 != 1 || len(s.things[n].b) > size {
				t.Errorf("inode %d has no table block or no block of its own", n)
			}
		}
	}
}
