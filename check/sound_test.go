package check_test

import (
	"bytes"
	"encoding/binary"
	"fmt"
	"math/rand"
	"slices"
	"testing"

	"bole/acts"
	"bole/adisk"
	"bole/api"
	"bole/bmap"
	"bole/check"
	"bole/dir"
	"bole/file"
	"bole/inode"
	"bole/space"
	"bole/txn"
	"bole/wal"
	"bole/walk"
)

// wrong are the errors that no call answers of what stands on a clean disk.
var wrong = []api.Errno{api.ErrPointer, api.ErrRecord, api.ErrCell, api.ErrFree, api.ErrFar}

// ground is a disk of what Image went through, which was clean.
type ground struct {
	*disk
	what    string
	records []api.Inode
}

// takes holds that a call's error is none of those.
func (w *ground) takes(call string, e api.Errno) {
	w.t.Helper()
	if slices.Contains(wrong, e) {
		w.t.Errorf("P19.5: %s: %s answers %d", w.what, call, e)
	}
}

// sees carries something out in a transaction that is let go.
func (w *ground) sees(call string, a act) {
	w.t.Helper()
	x := txn.Begin(w.d)
	defer x.Abort()
	w.takes(call, a(x, w.g))
}

// leaves carries something out in a transaction that is let go; what it would leave is clean still.
func (w *ground) leaves(call string, a act) {
	w.t.Helper()
	x := txn.Begin(w.d)
	defer x.Abort()
	e := a(x, w.g)
	w.takes(call, e)
	if e != api.OK || len(x.Written()) == 0 {
		return
	}
	image := w.d.Image()
	for _, i := range x.Written() {
		b, _ := x.Read(i)
		copy(image[i*size:], b)
	}
	if l := check.Image(image); !check.Clean(l) {
		w.t.Errorf("P19.4: %s: behind %s: %s", w.what, call, few(l))
	}
}

// blocks holds that no block is had twice, and that just those that are had are taken.
func (w *ground) blocks() {
	w.t.Helper()
	x := txn.Begin(w.d)
	defer x.Abort()
	had := map[int]bool{}
	for n, y := range w.records {
		list, tables, e := bmap.All(x, w.g, y)
		w.takes(fmt.Sprint("All of inode ", n), e)
		for _, p := range list {
			tables = append(tables, p[1])
		}
		for _, num := range tables {
			if had[num] {
				w.t.Errorf("P19.5: %s: the block %d is had twice", w.what, num)
			}
			had[num] = true
		}
	}
	for k := w.g.Data; k < w.g.Blocks; k++ {
		if on, e := space.Used(x, w.g, k); on != had[k] || e != api.OK {
			w.t.Errorf("P19.5: %s: the bit of block %d is %t, %d, and it is had: %t", w.what, k, on, e, had[k])
		}
	}
}

// bytes reads, writes and cuts a file.
func (w *ground) bytes(n int) {
	y := w.records[n]
	w.sees(fmt.Sprint("Blocks of ", n), func(x *txn.Txn, g api.Geo) api.Errno { return errOf(file.Blocks(x, g, n)) })
	for _, off := range []int{0, 5120, 70656, max(0, y.Size-1000)} {
		w.sees(fmt.Sprint("Read of ", n), func(x *txn.Txn, g api.Geo) api.Errno {
			_, e := file.Read(x, g, n, off, 3000)
			return e
		})
	}
	if y.Kind != api.KindFile {
		return
	}
	for _, off := range []int{0, y.Size / 2, y.Size, 5120, 70656, api.MaxFile - 600} {
		w.leaves(fmt.Sprint("Write of ", n, " at ", off), func(x *txn.Txn, g api.Geo) api.Errno { return file.Write(x, g, n, off, rep("y", 600)) })
		w.leaves(fmt.Sprint("Cut of ", n, " at ", off), func(x *txn.Txn, g api.Geo) api.Errno { return file.Cut(x, g, n, off) })
	}
}

// cells asks a directory: each name leads to an inode that is there.
func (w *ground) cells(n int) {
	w.t.Helper()
	w.names(n)
	for _, name := range []string{"new", rep("n", 27)} {
		w.sees(fmt.Sprint("Add in ", n), func(x *txn.Txn, g api.Geo) api.Errno { return dir.Add(x, g, n, name, 1) })
	}
}

func (w *ground) names(n int) {
	w.t.Helper()
	x := txn.Begin(w.d)
	defer x.Abort()
	l, e := dir.List(x, w.g, n)
	w.takes(fmt.Sprint("List of ", n), e)
	for _, c := range l {
		if c.Inode >= w.g.Count || w.records[c.Inode].Kind == api.KindFree {
			w.t.Errorf("P19.5: %s: the name %q in %d leads to %d, which isn't there", w.what, c.Name, n, c.Inode)
		}
		m, e := dir.Find(x, w.g, n, c.Name)
		if m != c.Inode || e != api.OK {
			w.t.Errorf("P19.5: %s: the name %q in %d is found as %d, %d, want %d", w.what, c.Name, n, m, e, c.Inode)
		}
	}
}

// acts carries out each call of chapter 17 on a path, and some with another one.
func (w *ground) acts(s string, others []string) {
	w.t.Helper()
	for _, follow := range []bool{true, false} {
		w.sees("To "+s, func(x *txn.Txn, g api.Geo) api.Errno {
			_, e := walk.To(x, g, s, follow)
			return e
		})
		w.leaves("Unlink "+s, func(x *txn.Txn, g api.Geo) api.Errno { return errOf(acts.Unlink(x, g, s, follow)) })
	}
	w.leaves("Create in "+s, func(x *txn.Txn, g api.Geo) api.Errno { return errOf(acts.Create(x, g, s+"/new")) })
	w.leaves("Mkdir in "+s, func(x *txn.Txn, g api.Geo) api.Errno { return errOf(acts.Mkdir(x, g, s+"/new")) })
	w.leaves("Symlink in "+s, func(x *txn.Txn, g api.Geo) api.Errno {
		return errOf(acts.Symlink(x, g, rep("/", 600), s+"/new"))
	})
	w.leaves("Rmdir "+s, func(x *txn.Txn, g api.Geo) api.Errno { return acts.Rmdir(x, g, s) })
	for _, other := range others {
		w.leaves("Link "+s+" "+other, func(x *txn.Txn, g api.Geo) api.Errno { return acts.Link(x, g, s, other) })
		w.leaves("Rename "+s+" "+other, func(x *txn.Txn, g api.Geo) api.Errno { return errOf(acts.Rename(x, g, s, other, true)) })
	}
}

// sound holds what clean means, of an image that is: all calls of the layers 9 to 17 that take just what stands there, and many with names and numbers of their own.
func sound(t *testing.T, r *rand.Rand, what string, b []byte) {
	t.Helper()
	d, _ := adisk.Open(b)
	image, e := wal.Behind(d)
	if e != api.OK {
		t.Fatalf("%s: Behind: %d", what, e)
	}
	w := &ground{disk: opened(t, image), what: what, records: []api.Inode{{}}}
	x := txn.Begin(w.d)
	for n := 1; n < w.g.Count; n++ {
		y, e := inode.Get(x, w.g, n)
		w.takes(fmt.Sprint("Get of ", n), e)
		w.records = append(w.records, y)
	}
	x.Abort()
	w.blocks()
	w.sees("Free", func(x *txn.Txn, g api.Geo) api.Errno { return errOf(space.Free(x, g)) })
	w.sees("Free", func(x *txn.Txn, g api.Geo) api.Errno { return errOf(inode.Free(x, g)) })
	w.sees("Height", func(x *txn.Txn, g api.Geo) api.Errno { return errOf(walk.Height(x, g, 1)) })
	for n, y := range w.records {
		switch y.Kind {
		case api.KindDir:
			w.cells(n)
		case api.KindFile, api.KindLink:
			w.bytes(n)
		}
	}
	for _, n := range w.orphans() {
		w.leaves(fmt.Sprint("Release of ", n), func(x *txn.Txn, g api.Geo) api.Errno { return acts.Release(x, g, n) })
	}
	paths := append(w.paths(), "/")
	for range 6 {
		s := paths[r.Intn(len(paths))]
		w.acts(s, []string{"/new", paths[r.Intn(len(paths))], paths[r.Intn(len(paths))] + "/new"})
	}
}

// shuffle draws a clean image anew, with other blocks, other inodes and other places of names: so it is one that no row of calls has left, and clean as before.
type shuffle struct {
	*sketch
	r *rand.Rand
}

// ownNumbers is the numbers of a record.
func ownNumbers(b []byte) []byte { return b[8:56] }

// eachNumber goes through the numbers that aren't 0 of an inode, tables ahead of what they tell: where each stands, and how many tables lie below it.
func (s *shuffle) eachNumber(n int, do func(at []byte, tables int)) {
	var row func(b []byte, tables func(i int) int)
	row = func(b []byte, tables func(i int) int) {
		for i := range len(b) / 4 {
			at, below := b[4*i:4*i+4], tables(i)
			num := le32(at)
			if num == 0 {
				continue
			}
			do(at, below)
			if below > 0 {
				row(s.b[num*size:(num+1)*size], func(int) int { return below - 1 })
			}
		}
	}
	row(ownNumbers(s.bytesOf(n)), func(i int) int { return max(0, i-9) })
}

// eachBlock goes through the blocks of a directory.
func (s *shuffle) eachBlock(n int, do func(num int)) {
	if s.bytesOf(n)[0] != api.KindDir {
		return
	}
	s.eachNumber(n, func(at []byte, tables int) {
		if tables == 0 {
			do(le32(at))
		}
	})
}

// moveBlocks gives the data blocks other numbers.
func (s *shuffle) moveBlocks() {
	to := s.r.Perm(s.g.Blocks - s.g.Data)
	// The numbers are all found ahead of the first that is changed.
	var all [][]byte
	for n := range s.g.Count {
		s.eachNumber(n, func(at []byte, _ int) { all = append(all, at) })
	}
	for _, at := range all {
		binary.LittleEndian.PutUint32(at, uint32(s.g.Data+to[le32(at)-s.g.Data]))
	}
	old := s.copy()
	for from, k := range to {
		s.free(s.g.Data + k)
		if old.b[98*size+(s.g.Data+from)/8]>>((s.g.Data+from)%8)&1 == 1 {
			s.take(s.g.Data + k)
		}
		copy(s.b[(s.g.Data+k)*size:(s.g.Data+k+1)*size], old.b[(s.g.Data+from)*size:])
	}
}

// moveInodes gives the inodes other numbers, but the root.
func (s *shuffle) moveInodes() {
	to := []int{0, 1}
	for _, n := range s.r.Perm(s.g.Count - 2) {
		to = append(to, 2+n)
	}
	for n := range s.g.Count {
		s.eachBlock(n, func(num int) {
			for k := range 16 {
				at := s.b[num*size+32*k:]
				binary.LittleEndian.PutUint32(at, uint32(to[le32(at)]))
			}
		})
	}
	old := s.copy()
	for n, m := range to {
		copy(s.bytesOf(m), old.bytesOf(n))
	}
}

// moveCells gives the names in each block of a directory other places.
func (s *shuffle) moveCells() {
	for n := range s.g.Count {
		s.eachBlock(n, func(num int) {
			old := bytes.Clone(s.b[num*size : (num+1)*size])
			for from, k := range s.r.Perm(16) {
				copy(s.b[num*size+32*k:][:32], old[32*from:])
			}
		})
	}
}

// P19.5: images that rows of calls have left, and such as are the same tree otherwise laid.
func TestSound(t *testing.T) {
	for seed := range int64(8) {
		r := rand.New(rand.NewSource(seed))
		k := opened(t, fresh(t, []int{128, 200, 640, 640}[seed%4]).b)
		if seed%4 == 3 {
			stemmed(k)
		}
		a := &row{r: r, names: "abcdefghi"}
		a.grow(k, 150, func(string, []byte, act) {})
		image := k.d.Image()
		ofBytes(t, image).tells("a row of calls", plain(image))
		sound(t, r, fmt.Sprint("row ", seed), image)
		for range 2 {
			s := &shuffle{&sketch{t, k.g, bytes.Clone(image)}, r}
			s.moveBlocks()
			s.moveInodes()
			s.moveCells()
			var want []api.Finding
			for _, n := range opened(t, s.b).orphans() {
				want = append(want, api.Finding{Kind: api.FindOrphan, Inode: n})
			}
			s.tells(fmt.Sprint("row ", seed, ", shuffled"), want)
			sound(t, r, fmt.Sprint("row ", seed, ", shuffled"), s.b)
		}
	}
}

// P19.5: a clean image whose log is good, over blocks that are wrong.
func TestSoundLog(t *testing.T) {
	r := rand.New(rand.NewSource(1))
	s := fresh(t, 128)
	s.dir(1, 3, 101, has("a", 2), has("d", 3))
	s.record(2, plainFile(1, 5, 110))
	s.lay(110, "hello")
	s.dir(3, 2, 102, has("b", 4))
	s.record(4, linkOf(1, 2, 103))
	s.lay(103, "/a")
	var blocks [][]byte
	nums := []int{98, 99, 101, 102, 103}
	for _, num := range nums {
		blocks = append(blocks, s.block(num))
		s.turn(num, 0, bytes.Repeat([]byte{9}, 512)...)
	}
	if check.Clean(check.Image(s.b)) {
		t.Errorf("P19.1: what is wrong is clean")
	}
	s.log(nums, blocks)
	s.finds("mended by the log")
	sound(t, r, "mended by the log", s.b)
}
