package vfs_test

import (
	"bytes"
	"encoding/binary"
	"fmt"
	"slices"
	"testing"

	"bole/adisk"
	"bole/api"
	"bole/check"
	"bole/vfs"
)

// grove is a right image of 128 blocks: /d (directory 2), /f (file 3, 600 bytes), /s (symbolic link 4 to d), /d/g (file 5, in a table too), /d/f (file 3 again).
func grove(t *testing.T) *sketch {
	t.Helper()
	b := fresh(t, 128)
	b.does(mkdir("/d"), create("/f"), write("/f", 0, rep("f", 600)), symlink("d", "/s"), create("/d/g"), write("/d/g", 5100, rep("g", 100)), link("/f", "/d/f"))
	b.right("the grove")
	return &sketch{t, b.d.Image()}
}

// sketch is an image that is changed by hand.
type sketch struct {
	t *testing.T
	b []byte
}

func (s *sketch) copy() *sketch { return &sketch{s.t, bytes.Clone(s.b)} }

func (s *sketch) block(i int) []byte { return s.b[i*size : (i+1)*size] }

// record is the bytes of an inode's record.
func (s *sketch) record(n int) []byte {
	inodes, _ := regionsOf(len(s.b) / size)
	return s.b[inodes*size+64*n:][:64]
}

func le32(b []byte) int { return int(binary.LittleEndian.Uint32(b)) }

// direct is a number of an inode: of its direct ones, then One, Two.
func (s *sketch) direct(n, k int) int { return le32(s.record(n)[8+4*k:]) }

func (s *sketch) setDirect(n, k, block int) {
	binary.LittleEndian.PutUint32(s.record(n)[8+4*k:], uint32(block))
}

func (s *sketch) setSize(n, size int) {
	binary.LittleEndian.PutUint32(s.record(n)[4:], uint32(size))
}

func (s *sketch) take(k int) { s.b[98*size+k/8] |= 1 << (k % 8) }
func (s *sketch) free(k int) { s.b[98*size+k/8] &^= 1 << (k % 8) }

// cell writes one of the first block of a directory.
func (s *sketch) cell(dir, place int, name string, n int) {
	c := s.block(s.direct(dir, 0))[32*place:][:32]
	clear(c)
	binary.LittleEndian.PutUint32(c, uint32(n))
	c[4] = byte(len(name))
	copy(c[5:], name)
}

// wrongs are changes of the grove, by the Kind of finding that they make.
var wrongs = []struct {
	kind int
	do   func(s *sketch)
}{
	{api.FindMeta, func(s *sketch) { s.free(0) }},
	{api.FindMeta, func(s *sketch) { s.free(100) }},
	{api.FindMeta, func(s *sketch) { s.free(128) }},
	{api.FindMeta, func(s *sketch) { s.free(4095) }},
	{api.FindRecord, func(s *sketch) { s.record(0)[63] = 1 }},
	{api.FindRecord, func(s *sketch) { s.record(9)[0] = 9 }},
	{api.FindRecord, func(s *sketch) { s.record(3)[1] = 1 }},
	{api.FindRecord, func(s *sketch) { copy(s.record(0), s.record(1)) }},
	{api.FindPointer, func(s *sketch) { s.setDirect(3, 1, 100) }},
	{api.FindPointer, func(s *sketch) { s.setDirect(5, 10, 128) }},
	{api.FindPointer, func(s *sketch) { s.block(s.direct(5, 10))[0] = 7 }},
	{api.FindTwice, func(s *sketch) { s.setDirect(3, 1, s.direct(3, 0)) }},
	{api.FindTwice, func(s *sketch) { s.setDirect(3, 0, s.direct(5, 9)) }},
	{api.FindTaken, func(s *sketch) { s.take(127) }},
	{api.FindFree, func(s *sketch) { s.free(s.direct(3, 0)) }},
	{api.FindFree, func(s *sketch) { s.free(s.direct(5, 10)) }},
	{api.FindTail, func(s *sketch) { s.block(s.direct(3, 1))[511] = 1 }},
	{api.FindTail, func(s *sketch) { s.setSize(3, 512) }},
	{api.FindTail, func(s *sketch) { clear(s.block(s.direct(5, 10))) }},
	{api.FindCell, func(s *sketch) { s.block(s.direct(2, 0))[4] = 28 }},
	{api.FindCell, func(s *sketch) { s.block(s.direct(2, 0))[5] = '/' }},
	{api.FindCell, func(s *sketch) { s.setSize(2, 1024) }},
	{api.FindName, func(s *sketch) { s.cell(1, 1, "d", 3) }},
	{api.FindNone, func(s *sketch) { s.cell(2, 1, "f", 14) }},
	{api.FindNone, func(s *sketch) { s.cell(2, 5, "h", 16) }},
	{api.FindParent, func(s *sketch) { s.cell(2, 5, "h", 1) }},
	{api.FindParent, func(s *sketch) { s.cell(2, 5, "h", 2) }},
	{api.FindLost, func(s *sketch) { s.record(9)[0], s.record(9)[2] = 2, 2 }},
	{api.FindLost, func(s *sketch) { s.record(1)[0] = 1 }},
	{api.FindLost, func(s *sketch) { s.cell(1, 0, "x", 3) }},
	{api.FindLinks, func(s *sketch) { s.record(3)[2] = 1 }},
	{api.FindLinks, func(s *sketch) { s.record(3)[2] = 0 }},
	{api.FindLinks, func(s *sketch) { s.record(1)[2] = 2 }},
	{api.FindText, func(s *sketch) { s.block(s.direct(4, 0))[0] = 0 }},
}

// finds tells whether check finds something of a Kind.
func finds(b []byte, kind int) bool {
	return slices.ContainsFunc(check.Image(b), func(f api.Finding) bool { return f.Kind == kind })
}

// differ are the blocks that two images don't have in common.
func differ(a, b []byte) []int {
	var l []int
	for i := range len(a) / size {
		if !bytes.Equal(a[i*size:(i+1)*size], b[i*size:(i+1)*size]) {
			l = append(l, i)
		}
	}
	return l
}

// P20.2, D12: an image of which check finds something but orphans; and the same where the log mends that, or where the log alone makes it.
func TestMountFindings(t *testing.T) {
	right := grove(t)
	want := sight(opened(t, right.b))
	for i, w := range wrongs {
		s := right.copy()
		w.do(s)
		what := fmt.Sprint("the change ", i, " (Kind ", w.kind, ")")
		if !finds(s.b, w.kind) {
			t.Errorf("%s: check finds %v", what, few(check.Image(s.b)))
		}
		refusesMount(t, what, disk(t, s.b))
		nums := differ(s.b, right.b)
		mended := logged(t, s.b, right.b, nums...)
		d := disk(t, mended)
		b := mounted(t, d)
		if w, f := d.Steps(); w != len(nums)+1 || f != 2 {
			t.Errorf("P20.2: %s, mended by the log: %d writes and %d flushes", what, w, f)
		}
		if got := sight(b); got != want {
			t.Errorf("P20.2: %s, mended by the log, is\n%s\nwant\n%s", what, got, want)
		}
		refusesMount(t, what+" in the log", disk(t, logged(t, right.b, s.b, nums...)))
	}
}

// P20.2, D12: a name that lies too deep, which takes a greater disk.
func TestMountDeep(t *testing.T) {
	b := fresh(t, 512)
	for i := range 32 {
		b.does(mkdir(rep("/d", i+1)))
	}
	b.does(create("/f"), link("/f", rep("/d", 31)+"/f"))
	st := b.Do(stat(rep("/d", 32)).c).Stat
	f := b.Do(stat("/f").c).Stat.Inode
	b.right("a deep directory")
	s := &sketch{t, b.d.Image()}
	s.setSize(st.Inode, 512)
	s.setDirect(st.Inode, 0, 511)
	s.take(511)
	clear(s.block(511))
	opened(t, s.b).lists(rep("/d", 32))
	s.cell(st.Inode, 3, "x", f)
	s.record(f)[2]++
	if l := check.Image(s.b); len(l) != 1 || l[0].Kind != api.FindDeep {
		t.Errorf("check finds %v", few(l))
	}
	refusesMount(t, "a name that lies too deep", disk(t, s.b))
}

// P20.2, D12: numbers of blocks that no file system has, whatever the super block says.
func TestMountLengths(t *testing.T) {
	right := grove(t).b
	for _, n := range []int{1, 2, 97, 98, 99, 127} {
		refusesMount(t, fmt.Sprint(n, " blocks of a right image"), disk(t, right[:n*size]))
		b := bytes.Clone(right[:n*size])
		copy(b, superOf(n))
		refusesMount(t, fmt.Sprint(n, " blocks, and the super block says so"), disk(t, b))
		d, _ := adisk.New(n)
		refusesMount(t, fmt.Sprint(n, " blocks of zeros"), d)
	}
}

// P20.2, D12: super blocks of other numbers, or none.
func TestMountSuper(t *testing.T) {
	for _, n := range []int{129, 191, 4097} {
		right := fresh(t, n).d.Image()
		for _, m := range []int{0, 1, 127, 128, n - 1, n + 1, 16384, 16385, 1 << 30} {
			if m == n {
				continue
			}
			b := bytes.Clone(right)
			copy(b, superOf(m))
			refusesMount(t, fmt.Sprint(n, " blocks, and the super block says ", m), disk(t, b))
		}
		refusesMount(t, "a block too few", disk(t, right[:len(right)-size]))
		refusesMount(t, "a block too many", disk(t, append(bytes.Clone(right), make([]byte, size)...)))
		opened(t, right)
	}
}

// P20.2, D12: a log that is bad, on a disk that is right with and without it.
func TestMountLog(t *testing.T) {
	right := grove(t)
	good := logged(t, right.b, right.b, 98, 99, 127)
	for at := size; at < 5*size; at += 1 {
		b := bytes.Clone(good)
		b[at] ^= 0x10
		refusesMount(t, fmt.Sprint("a good log with the byte ", at, " turned"), disk(t, b))
	}
	for at := size; at < 2*size; at++ {
		b := bytes.Clone(right.b)
		b[at] = 1
		refusesMount(t, fmt.Sprint("an empty header with the byte ", at, " turned"), disk(t, b))
	}
	b := bytes.Clone(good)
	b[5*size] ^= 1
	if got, want := sight(opened(t, b)), sight(opened(t, right.b)); got != want {
		t.Errorf("P20.2: the log's data behind its blocks are nobody's:\n%s\nwant\n%s", got, want)
	}
}

// P20.2: orphans are released, the lowest first, each in a transaction of its own; behind the log's recovery.
func TestMountOrphans(t *testing.T) {
	for _, count := range []int{1, 2, 5} {
		for _, log := range []bool{false, true} {
			what := fmt.Sprint(count, " orphans, in the log: ", log)
			b := fresh(t, 128)
			b.does(mkdir("/d"), create("/keep"), write("/keep", 0, "kept"))
			for i := range count {
				b.does(create(fmt.Sprint("/", i)), write(fmt.Sprint("/", i), 5100, rep("o", 100)))
			}
			named := b.d.Image()
			for i := range count {
				b.does(unlinkAs(fmt.Sprint("/", count-1-i), true))
			}
			before := b.d.Image()
			left := orphans(b)
			for _, n := range left {
				b.does(release(n))
			}
			want := sight(b)

			image, recovery := before, 0
			if log {
				nums := differ(named, before)
				nums = slices.DeleteFunc(nums, func(i int) bool { return i < 98 })
				image, recovery = logged(t, named, before, nums...), 2
			}
			d := disk(t, image)
			c := mounted(t, d)
			if got := sight(c); got != want {
				t.Errorf("P20.2: %s: Mount leaves\n%s\nwant\n%s", what, got, want)
			}
			c.right(what)
			if _, f := d.Steps(); f != recovery+4*count {
				t.Errorf("P20.2: %s: Mount has %d flushes", what, f)
			}
			flushes := 0
			for i, a := range d.Tape(0) {
				if a.Kind != api.ActFlush {
					continue
				}
				if flushes++; flushes < recovery || (flushes-recovery)%4 > 0 {
					continue
				}
				gone := (flushes - recovery) / 4
				part, _ := adisk.After(image, d.Tape(0)[:i+1], nil)
				var found []int
				for _, f := range check.Image(part) {
					if f.Kind != api.FindOrphan {
						t.Errorf("P20.2: %s: behind %d of them check finds %v", what, gone, f)
					}
					found = append(found, f.Inode)
				}
				if !slices.Equal(found, left[gone:]) {
					t.Errorf("P20.2: %s: behind %d of them %v are left, want %v", what, gone, found, left[gone:])
				}
			}
		}
	}
}

// P0.3: behind a mount another one has no step.
func TestMountAgain(t *testing.T) {
	right := grove(t)
	b := opened(t, right.b)
	b.does(unlinkAs("/d/g", true), unlinkAs("/f", true), unlinkAs("/d/f", true))
	for what, image := range map[string][]byte{"a right image": right.b, "orphans": b.d.Image(), "a log": logged(t, right.b, b.d.Image(), differ98(right.b, b.d.Image())...)} {
		d := disk(t, image)
		mounted(t, d)
		d.Crash(nil)
		again := disk(t, d.Image())
		mounted(t, again)
		if steps(again) > 0 || !bytes.Equal(again.Image(), d.Image()) {
			t.Errorf("P0.3: %s: a second mount has %d steps", what, steps(again))
		}
		mounted(t, again)
		if steps(again) > 0 {
			t.Errorf("P0.3: %s: a mount of the same disk has %d steps", what, steps(again))
		}
	}
}

// differ98 are the blocks behind the log that two images don't have in common.
func differ98(a, b []byte) []int {
	return slices.DeleteFunc(differ(a, b), func(i int) bool { return i < 98 })
}

// P20.2: while the power is out ErrDown comes ahead of all that is wrong with the disk.
func TestMountDown(t *testing.T) {
	right := grove(t)
	wrong := right.copy()
	wrong.free(0)
	for what, image := range map[string][]byte{"a right image": right.b, "a wrong one": wrong.b, "a short one": right.b[:size], "one with a bad log": append(bytes.Repeat([]byte{1}, 2*size), right.b[2*size:]...)} {
		d := disk(t, image)
		d.Crash(nil)
		if f, e := vfs.Mount(d); f != nil || e != api.ErrDown || steps(d) > 0 {
			t.Errorf("P20.2: Mount of %s, the power out: %v, %d", what, f, e)
		}
	}
}

// P20.2, P0.2: the power goes at each step of a mount that has a log to recover and orphans to release.
func TestMountCut(t *testing.T) {
	right := grove(t)
	b := opened(t, right.b)
	b.does(create("/o"), write("/o", 0, rep("o", 5200)), unlinkAs("/o", true), unlinkAs("/d/g", true))
	image := logged(t, right.b, b.d.Image(), differ98(right.b, b.d.Image())...)
	whole := disk(t, image)
	want := sight(mounted(t, whole))
	most := steps(whole)
	if most < 20 {
		t.Errorf("the mount has %d steps", most)
	}
	for at := 1; at <= most+1; at++ {
		for _, keep := range [][]bool{nil, slices.Repeat([]bool{true}, 40), slices.Repeat([]bool{true, false}, 20), slices.Repeat([]bool{false, true}, 20)} {
			d := disk(t, image)
			d.Arm(api.Crash{At: at, Keep: keep})
			f, e := vfs.Mount(d)
			if at > most {
				if f == nil || e != api.OK || d.Down() {
					t.Errorf("P20.2: the power going behind Mount: %d", e)
				}
				continue
			}
			if f != nil || e != api.ErrDown || !d.Down() || steps(d) != at {
				t.Errorf("P20.2: the power going at step %d: %v, %d, with %d steps", at, f, e, steps(d))
			}
			if !check.Clean(check.Image(d.Image())) {
				t.Errorf("P0.5: the power going at step %d: check finds %v", at, few(check.Image(d.Image())))
			}
			if got := sight(opened(t, d.Image())); got != want {
				t.Errorf("P0.2: the power went at step %d, and a second mount leaves\n%s\nwant\n%s", at, got, want)
			}
		}
	}
}

// P20.2: what is pending counts, and stays so where there is no step.
func TestMountPending(t *testing.T) {
	right := grove(t)
	want := sight(opened(t, right.b))
	d, _ := adisk.New(128)
	for i := range 128 {
		d.Write(i, right.block(i))
	}
	before := steps(d)
	b := mounted(t, d)
	if got := sight(b); got != want || steps(d) != before || len(d.Pending()) != 128 || !bytes.Equal(d.Image(), make([]byte, 128*size)) {
		t.Errorf("P20.2: of a right image that is pending: %d steps, %d blocks pending, the sight\n%s\nwant\n%s", steps(d)-before, len(d.Pending()), got, want)
	}
	b.does(create("/new"))
	if got, want := sight(b.copy()), sight(b); got != want {
		t.Errorf("P20.2: the first flush makes what was pending last:\n%s\nwant\n%s", got, want)
	}

	d = disk(t, right.b)
	s := right.copy()
	s.free(0)
	d.Write(98, s.block(98))
	before = steps(d)
	if f, e := vfs.Mount(d); f != nil || e != api.ErrMount || steps(d) != before || !slices.Equal(d.Pending(), []int{98}) {
		t.Errorf("P20.2: of a right image with a wrong block pending: %v, %d, pending %v", f, e, d.Pending())
	}
	d.Write(98, right.block(98))
	mounted(t, d)
}

// P20.2: a file with Links 0 that is great is released too, and an empty one.
func TestMountGreatOrphan(t *testing.T) {
	b := fresh(t, 1024)
	b.does(create("/o"), create("/e"), mkdir("/d"))
	for off := 0; off < 300*size; off += 16384 {
		b.does(write("/o", off, rep("o", 16384)))
	}
	b.does(truncate("/o", 8459264), write("/o", 8459263, "z"))
	b.tellsNumber(unlinkAs("/o", true), 2)
	b.tellsNumber(unlinkAs("/e", true), 3)
	c := b.copy()
	c.free(1024-115-1, 128-3)
	c.refuses(api.ErrInode, statAt(2), statAt(3))
	c.right("a great orphan")
}
