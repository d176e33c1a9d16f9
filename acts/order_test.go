package acts_test

import (
	"fmt"
	"slices"
	"strings"
	"testing"

	"bole/api"
)

// scene is a call on a disk of which some things are wrong. Each inode that matters has its record in a block of its own: their numbers are 1, 9, 17 and so on.
type scene struct {
	c      call
	things map[int]thing
	raw    map[int]bool // whose bytes are no record
	blind  []int        // blocks that can't be read
	loose  []int        // blocks whose bits are free
	full   bool         // no block is free
}

// fault is something that is wrong with a scene; of two that touch the same only one can be.
type fault struct {
	what  string
	touch string
	code  api.Errno
	do    func(s *scene)
}

func (f fault) goesWith(g fault) bool {
	for _, word := range strings.Fields(f.touch) {
		if slices.Contains(strings.Fields(g.touch), word) {
			return false
		}
	}
	return true
}

// change lets a thing be another one.
func (s *scene) change(n int, do func(o *thing)) {
	o := s.things[n]
	o.b = slices.Clone(o.b)
	do(&o)
	s.things[n] = o
}

func setCell(n, place int, c api.Entry) func(s *scene) {
	return func(s *scene) {
		s.change(n, func(o *thing) { copy(o.b[32*place:], cellBytes(c)) })
	}
}

// recordFaults are what can be wrong with an inode's record.
func recordFaults(n int) []fault {
	return []fault{
		{fmt.Sprint("table of ", n), fmt.Sprint("t", n), api.ErrDown, func(s *scene) { s.blind = append(s.blind, 99+n/8) }},
		{fmt.Sprint("record of ", n), fmt.Sprint("r", n), api.ErrRecord, func(s *scene) { s.raw[n] = true }},
	}
}

func isFile(n int, code api.Errno) fault {
	return fault{fmt.Sprint(n, " is a file"), fmt.Sprint("r", n, " k", n), code, func(s *scene) { s.change(n, func(o *thing) { o.x.Kind = 1 }) }}
}

// cellFaults are what can be wrong with a directory's one block.
func cellFaults(n int) []fault {
	return []fault{
		{fmt.Sprint("number in ", n), fmt.Sprint("n", n), api.ErrPointer, func(s *scene) { s.change(n, func(o *thing) { o.x.Direct[0] = 99 }) }},
		{fmt.Sprint("block of ", n), fmt.Sprint("b", n), api.ErrDown, func(s *scene) { s.blind = append(s.blind, at(n, 0)) }},
		{fmt.Sprint("cells of ", n), fmt.Sprint("c", n), api.ErrCell, func(s *scene) { s.change(n, func(o *thing) { o.b[511] = 1; clear(o.b[480:484]) }) }},
	}
}

// dirFaults are what can be wrong with a directory in which a name is looked for.
func dirFaults(n int) []fault {
	return slices.Concat(recordFaults(n), []fault{isFile(n, api.ErrNotDir)}, cellFaults(n))
}

func goneFault(n, place int) fault {
	return fault{fmt.Sprint("no name ", place, " in ", n), fmt.Sprint("g", n, ".", place), api.ErrNone, setCell(n, place, api.Entry{})}
}

func pathFault(what, touch string, code api.Errno, do func(c *call)) fault {
	return fault{what, touch, code, func(s *scene) { do(&s.c) }}
}

// The bitmap's block can't be read; no block is free.
var (
	blindBits = fault{"the bitmap", "t98", api.ErrDown, func(s *scene) { s.blind = append(s.blind, 98) }}
	noBlock   = fault{"no block free", "full", api.ErrSpace, func(s *scene) { s.full = true }}
)

// loose lets a thing's block be free in the bitmap.
func looseFault(n int) fault {
	return fault{fmt.Sprint("block of ", n, " is free"), fmt.Sprint("full f", n), api.ErrFree, func(s *scene) { s.loose = append(s.loose, at(n, 0)) }}
}

func linksFault(n, links int, code api.Errno) fault {
	return fault{fmt.Sprint(n, " has Links ", links), fmt.Sprint("l", n, " k", n), code, func(s *scene) { s.change(n, func(o *thing) { o.x.Links = links }) }}
}

// deep is a path to what lies in the root, over the root again and again: 29 times by its name r, and three times through a link.
func deep(s string) string { return rep("/r", 27) + "/k" + s }

// laid lays a scene on a disk whose power is out, with all put that is to be read.
func (s *scene) laid(t *testing.T) *world {
	t.Helper()
	w := laid(t, s.things)
	for n := range s.raw {
		w.noRecord(n)
	}
	b := w.block(98)
	for _, i := range s.loose {
		b[i/8] &^= 1 << (i % 8)
	}
	w.lay(98, b)
	if s.full {
		w.takeAll()
	}
	bytes := map[int][]byte{}
	for i := 98; i < 115; i++ {
		bytes[i] = w.block(i)
	}
	for n, o := range s.things {
		if len(o.b) > 0 {
			bytes[at(n, 0)] = w.block(at(n, 0))
		}
	}
	want(t, "Back", w.x.Back(0), api.OK)
	for i, b := range bytes {
		if !slices.Contains(s.blind, i) {
			w.lay(i, b)
		}
	}
	w.d.Crash(nil)
	return w
}

// inOrder holds of each fault that its error is told, and of each two that the first one's is.
func inOrder(t *testing.T, base func() *scene, faults []fault) {
	t.Helper()
	s := base()
	w := s.laid(t)
	if _, e := s.c.on(w.x, w.g); e != api.OK {
		t.Fatalf("%v with nothing wrong: %d", s.c, e)
	}
	for i, a := range faults {
		for _, b := range faults[i:] {
			if a.what != b.what && !a.goesWith(b) {
				continue
			}
			s := base()
			a.do(s)
			if a.what != b.what {
				b.do(s)
			}
			w := s.laid(t)
			w.refuses(a.code, s.c)
			if t.Failed() {
				t.Fatalf("%s, and %s", a.what, b.what)
			}
		}
	}
}

// filled is things with a file for each number ahead of the first free one, 58.
func filled(things map[int]thing) map[int]thing {
	for n := 2; n < 58; n++ {
		if _, ok := things[n]; !ok {
			things[n] = plainFile(1, "")
		}
	}
	return things
}

// ring is the root with a name of itself, and a link that leads to it over three of them.
func ring(things map[int]thing, names ...api.Entry) map[int]thing {
	things[1] = folder(10, append(names, has("r", 1), has("k", 57))...)
	things[57] = linkTo(1, "r/r/r/r/.")
	return things
}

// P17.1 to P17.3: each fault, and each two, in the order in which they are met.
func TestMakeOrder(t *testing.T) {
	for name, make := range makers {
		base := func() *scene {
			return &scene{c: make("/d/x"), things: filled(ring(map[int]thing{9: folder(2, many("n", 16, 2)...)}, has("d", 9))), raw: map[int]bool{}}
		}
		to := func(s string) func(c *call) {
			return func(c *call) { *c = make(s) }
		}
		faults := []fault{pathFault("no path", "path", api.ErrInval, to("d/x")), pathFault("too long", "path", api.ErrTooLong, to("/d/"+rep("x", 28)))}
		if name == "Symlink" {
			faults = append([]fault{pathFault("no text", "text", api.ErrInval, func(c *call) { c.a = "" })}, faults...)
			faults[1].touch, faults[2].touch = "path text", "path text"
		}
		faults = append(faults, dirFaults(1)...)
		faults = append(faults, goneFault(1, 0))
		faults = append(faults, dirFaults(9)...)
		faults = append(faults, fault{"the name is there", "x9", api.ErrExist, setCell(9, 3, has("x", 200))})
		faults = append(faults, pathFault("33 deep", "path text", api.ErrTooLong, to(deep("/d/x"))))
		for _, n := range []int{17, 25, 49} {
			faults = append(faults, recordFaults(n)...)
		}
		faults = append(faults, fault{"no inode free", "58", api.ErrSpace, func(s *scene) {
			for n := 58; n < 128; n++ {
				s.things[n] = plainFile(1, "")
			}
		}}, blindBits, noBlock)
		if name == "Mkdir" {
			faults = append(faults, linksFault(9, 65535, api.ErrRecord))
		}
		inOrder(t, base, faults)
	}
}

// P17.4: likewise.
func TestLinkOrder(t *testing.T) {
	base := func() *scene {
		return &scene{c: link("/p/f", "/d/x"), things: ring(map[int]thing{9: folder(2, has("f", 25)), 17: folder(2, many("n", 16, 2)...), 25: plainFile(1, "x")}, has("p", 9), has("d", 17)), raw: map[int]bool{}}
	}
	faults := slices.Concat(
		[]fault{
			pathFault("no old", "old", api.ErrInval, func(c *call) { c.a = "p/f" }),
			pathFault("no other", "other", api.ErrInval, func(c *call) { c.b = "/d/x/.." }),
			pathFault("other too long", "other", api.ErrTooLong, func(c *call) { c.b = rep("/x", 33) }),
		},
		dirFaults(1), []fault{goneFault(1, 0)}, dirFaults(9), []fault{goneFault(9, 0)}, recordFaults(25),
		[]fault{goneFault(1, 1)}, dirFaults(17),
		[]fault{
			{"old is a directory", "r25 f25", api.ErrPerm, func(s *scene) { s.things[25] = folder(2) }},
			{"the name is there", "x17", api.ErrExist, setCell(17, 7, has("x", 200))},
			linksFault(25, 1000, api.ErrLinks),
			pathFault("33 deep", "other", api.ErrTooLong, func(c *call) { c.b = deep("/d/x") }),
			blindBits, noBlock,
			{"old is free", "r25 l25", api.ErrRecord, func(s *scene) { delete(s.things, 25) }},
		})
	inOrder(t, base, faults)
	// The root as other, behind the walks.
	inOrder(t, func() *scene {
		s := base()
		s.c.b = "/d/new"
		return s
	}, slices.Concat(dirFaults(9), recordFaults(25), []fault{
		{"old is a directory", "r25", api.ErrPerm, func(s *scene) { s.things[25] = folder(2) }},
		pathFault("the root", "other", api.ErrExist, func(c *call) { c.b = "/" }),
		linksFault(25, 1000, api.ErrLinks),
	}))
}

// P17.5: likewise; what is wrong with the blocks of a file comes last.
func TestUnlinkOrder(t *testing.T) {
	for kind := range map[int]string{1: "file", 3: "link"} {
		base := func() *scene {
			o := thing{api.Inode{Kind: kind, Links: 1, Size: 5}, []byte("bytes")}
			return &scene{c: call{op: "Unlink", a: "/d/x", hold: kind == 3}, things: ring(map[int]thing{9: folder(2, has("n", 2), has("x", 17)), 17: o}, has("d", 9)), raw: map[int]bool{}}
		}
		faults := slices.Concat(
			[]fault{pathFault("no path", "path", api.ErrInval, func(c *call) { c.a = "/d/." }), pathFault("the root", "path", api.ErrIsDir, func(c *call) { c.a = "//" })},
			dirFaults(1), []fault{goneFault(1, 0)}, dirFaults(9), []fault{goneFault(9, 1)}, recordFaults(17),
			[]fault{
				{"a directory", "r17 l17", api.ErrIsDir, func(s *scene) { s.change(17, func(o *thing) { o.x = api.Inode{Kind: 2, Links: 2, Size: 512} }) }},
				{"no Links", "r17 l17 n17 m17", api.ErrRecord, func(s *scene) { delete(s.things, 17) }},
				{"a number", "n17 r17", api.ErrPointer, func(s *scene) { s.change(17, func(o *thing) { o.x.Direct[0] = 98 }) }},
				blindBits, looseFault(17),
				{"a table", "m17", api.ErrPointer, func(s *scene) { s.change(17, func(o *thing) { o.x.One = 5 }) }},
			})
		inOrder(t, base, faults)
	}
}

// P17.6: likewise.
func TestRmdirOrderOfAll(t *testing.T) {
	base := func() *scene {
		return &scene{c: rmdir("/d/x"), things: ring(map[int]thing{9: folder(3, has("n", 2), has("x", 17)), 17: folder(2, api.Entry{})}, has("d", 9)), raw: map[int]bool{}}
	}
	faults := slices.Concat(
		[]fault{pathFault("no path", "path", api.ErrInval, func(c *call) { c.a = "/d/.." }), pathFault("the root", "path", api.ErrBusy, func(c *call) { c.a = "/" })},
		dirFaults(1), []fault{goneFault(1, 0)}, dirFaults(9), []fault{goneFault(9, 1)}, recordFaults(17),
		[]fault{isFile(17, api.ErrNotDir)}, cellFaults(17),
		[]fault{
			{"a name", "x17", api.ErrNotEmpty, setCell(17, 3, has("y", 200))},
			linksFault(9, 2, api.ErrRecord),
			blindBits, looseFault(17),
			{"a number behind the size", "m17", api.ErrPointer, func(s *scene) { s.change(17, func(o *thing) { o.x.Direct[4] = 114 }) }},
		})
	inOrder(t, base, faults)
}

// P17.7: likewise, of a directory onto an empty one.
func TestRenameOrderOver(t *testing.T) {
	base := func() *scene {
		return &scene{c: rename("/p/f", "/d/x"), things: ring(map[int]thing{
			9: folder(3, has("f", 25)), 17: folder(3, has("x", 33)), 25: folder(2, has("y", 41), has("d", 17)), 33: folder(2, api.Entry{}), 41: plainFile(1, ""),
		}, has("p", 9), has("d", 17)), raw: map[int]bool{}}
	}
	other := func(what, touch, s string, code api.Errno) fault {
		return pathFault(what, touch, code, func(c *call) { c.b = s })
	}
	faults := slices.Concat(
		[]fault{
			pathFault("no old", "old", api.ErrInval, func(c *call) { c.a = "p/f" }),
			pathFault("old too long", "old", api.ErrTooLong, func(c *call) { c.a = "/p/" + rep("f", 28) }),
			other("no other", "other", "/d/x/.", api.ErrInval),
			other("other too long", "other", rep("/x", 33), api.ErrTooLong),
		},
		dirFaults(1), []fault{goneFault(1, 0)}, dirFaults(9), []fault{goneFault(9, 0)},
		[]fault{goneFault(1, 1)}, dirFaults(17),
		// What other is, is read ahead of what old is.
		recordFaults(33), recordFaults(25),
		[]fault{
			isFile(25, api.ErrIsDir),
			{"33 is a file", "r33 k33 k25", api.ErrNotDir, isFile(33, 0).do},
			other("inside", "other g1.1 t25 r25 n25 b25 c25", "/p/f/d/x", api.ErrInval),
		},
		cellFaults(33),
		[]fault{
			{"a name", "x33", api.ErrNotEmpty, setCell(33, 3, has("y", 200))},
			other("33 deep", "other", deep("/d/x"), api.ErrTooLong),
		},
		cellFaults(25), []fault{
			{"y is none", "y25", api.ErrInode, setCell(25, 0, has("y", 128))},
		},
		recordFaults(41),
		[]fault{
			{"a ring", "z25", api.ErrTooLong, setCell(25, 2, has("z", 25))},
			blindBits, looseFault(33),
			{"a number behind the size", "m33", api.ErrPointer, func(s *scene) { s.change(33, func(o *thing) { o.x.Direct[4] = 114 }) }},
			linksFault(9, 2, api.ErrRecord), linksFault(17, 65535, api.ErrRecord),
		})
	// The names of 25 are asked by their bytes: d (17) ahead of y; what is wrong with 17 is met long before.
	inOrder(t, base, faults)
	// The root stands behind both walks, and ahead of the kinds.
	inOrder(t, base, slices.Concat(dirFaults(9), []fault{goneFault(9, 0), other("the root", "other", "/", api.ErrBusy)}, recordFaults(33), recordFaults(25), cellFaults(33)))
	// The same inode: nothing of it is asked.
	for _, f := range slices.Concat(recordFaults(25), []fault{isFile(25, 0)}, cellFaults(25), []fault{blindBits, noBlock}) {
		s := base()
		setCell(17, 0, has("x", 25))(s)
		f.do(s)
		s.laid(t).nothing("/p/f", "/d/x")
	}
}

// P17.7: likewise, of a file to a name that isn't there, in a directory without a free cell.
func TestRenameOrderBeside(t *testing.T) {
	base := func() *scene {
		return &scene{c: rename("/p/f", "/d/x"), things: ring(map[int]thing{9: folder(3, has("f", 25)), 17: folder(3, many("n", 16, 2)...), 25: plainFile(0, "x")}, has("p", 9), has("d", 17)), raw: map[int]bool{}}
	}
	inOrder(t, base, slices.Concat(
		dirFaults(9), []fault{goneFault(9, 0), goneFault(1, 1)}, dirFaults(17), recordFaults(25),
		[]fault{
			pathFault("33 deep", "other", api.ErrTooLong, func(c *call) { c.b = deep("/d/x") }),
			blindBits, noBlock,
		}))
	// A directory's Links come behind that.
	inOrder(t, func() *scene {
		s := base()
		s.things[25] = folder(2)
		return s
	}, []fault{blindBits, noBlock, linksFault(9, 2, api.ErrRecord), linksFault(17, 65535, api.ErrRecord)})
	// What a file's blocks are isn't asked, nor what Links it has.
	for _, do := range []func(o *thing){
		func(o *thing) { o.x.Direct[0] = 5 },
		func(o *thing) { o.x.One = 98 },
		func(o *thing) { *o = thing{} },
		func(o *thing) { o.x.Links = 1000 },
	} {
		s := base()
		s.change(25, do)
		w := s.laid(t)
		w.gives(s.c, 0)
		w.leads("/d/x", 25)
		w.gone("/p/f")
	}
}
