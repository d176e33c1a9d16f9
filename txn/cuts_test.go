package txn_test

import (
	"bytes"
	"fmt"
	"math/rand"
	"slices"
	"testing"

	"bole/adisk"
	"bole/api"
	"bole/txn"
	"bole/wal"
)

// keeps are all lists of n bools.
func keeps(n int) [][]bool {
	lists := [][]bool{nil}
	for range n {
		var longer [][]bool
		for _, l := range lists {
			longer = append(longer, append(slices.Clone(l), false), append(slices.Clone(l), true))
		}
		lists = longer
	}
	return lists
}

// fewKeeps are none, all, and two of any.
func fewKeeps(r *rand.Rand, n int) [][]bool {
	lists := make([][]bool, 4)
	for k := range lists[1:] {
		lists[k+1] = make([]bool, n)
		for i := range n {
			lists[k+1][i] = k == 0 || r.Intn(2) == 0
		}
	}
	return lists
}

// blocks are n of them, with bytes 'A', 'B' and so on.
func blocks(n, first, by int) []api.Block {
	l := make([]api.Block, n)
	for k := range l {
		l[k] = api.Block{Num: first + k*by, Bytes: full(byte('A' + k))}
	}
	return l
}

// placed is an image with these blocks in their places.
func placed(image []byte, l []api.Block) []byte {
	all := slices.Clone(image)
	for _, b := range l {
		copy(all[b.Num*size:], b.Bytes)
	}
	return all
}

// roundabout is a transaction of which these blocks are put in the end, from the last on, with others that were undone and bytes that were put again. It never has more than these put.
func roundabout(t *testing.T, d *adisk.Disk, l []api.Block) *txn.Txn {
	t.Helper()
	x := txn.Begin(d)
	mustPut(t, x, 'u', d.Blocks()-1)
	want(t, "Back", x.Back(0), api.OK)
	for _, b := range slices.Backward(l) {
		mustPut(t, x, 'o', b.Num)
		mark, _ := x.Mark()
		mustPut(t, x, 'u', b.Num, l[len(l)-1].Num)
		want(t, "Back", x.Back(mark), api.OK)
		want(t, "Write", x.Write(b.Num, b.Bytes), api.OK)
	}
	return x
}

// cut is what lasts of a disk whose power goes in a call, or behind it, if that has too few steps.
func cut(t *testing.T, image []byte, c api.Crash, does func(d *adisk.Disk)) []byte {
	t.Helper()
	d := opened(t, image)
	d.Arm(c)
	does(d)
	d.Crash(c.Keep)
	return d.Image()
}

// wantRecovered holds that what is left stands behind its log as it should, that its recovery says so too, and that so it is wherever that one is cut, and those behind it. What was seen once isn't cut again.
func wantRecovered(t *testing.T, what string, left, behind []byte, ways [][]bool, seen map[string]int) {
	t.Helper()
	if seen[string(left)]++; seen[string(left)] > 1 {
		return
	}
	x := opened(t, left)
	n, e := wal.Recover(x)
	if e != api.OK || !bytes.Equal(x.Image()[98*size:], behind[98*size:]) || !bytes.Equal(block(x.Image(), 0), block(behind, 0)) {
		t.Fatalf("%s: Recover: %d, %d, or other bytes", what, n, e)
	}
	if n == 0 {
		return
	}
	for at := 1; at <= n+3; at++ {
		for _, keep := range ways {
			c := api.Crash{At: at, Keep: keep}
			inner := fmt.Sprintf("%s, recovery cut at %d, keep %v", what, at, keep)
			wantRecovered(t, inner, cut(t, left, c, func(d *adisk.Disk) { wal.Recover(d) }), behind, ways, seen)
		}
	}
}

// headerLasts is when a commit of n blocks has happened: its header's write is step n + 2, the flush n + 3.
func headerLasts(n int, c api.Crash) bool {
	kept := len(c.Keep) > 0 && c.Keep[0]
	return c.At > n+3 || c.At >= n+2 && kept
}

// cutCommit cuts a Commit of these blocks, and tells what lasts then and what stands behind the recovery.
func cutCommit(t *testing.T, what string, image []byte, l []api.Block, c api.Crash) (left, behind []byte) {
	t.Helper()
	n := len(l)
	left = cut(t, image, c, func(d *adisk.Disk) {
		x := roundabout(t, d, l)
		wantSteps(t, what+": ahead of it", d, 0, 0)
		code := api.OK
		if c.At <= 2*n+6 {
			code = api.ErrDown
		}
		want(t, what, x.Commit(), code)
		w, f := d.Steps()
		if d.Down() != (code != api.OK) || w+f != min(c.At, 2*n+6) {
			t.Fatalf("%s: %d steps, down %v", what, w+f, d.Down())
		}
		wantAllOver(t, what, x, d)
	})
	if headerLasts(n, c) {
		return left, placed(image, l)
	}
	return left, image
}

// P6.6: Commits of a few blocks cut at every step with every Keep, and their recoveries likewise; the last step is one behind the end.
func TestCommitCutAnywhere(t *testing.T) {
	for n := 1; n <= 4; n++ {
		image, l := noise(int64(n), 111), blocks(n, 98, 4)
		seen := [2]map[string]int{{}, {}}
		for at := 1; at <= 2*n+7; at++ {
			for _, keep := range keeps(n) {
				c := api.Crash{At: at, Keep: keep}
				what := fmt.Sprintf("P6.6: %d blocks, cut at %d, keep %v", n, at, keep)
				left, behind := cutCommit(t, what, image, l, c)
				happened := 0
				if headerLasts(n, c) {
					happened = 1
				}
				wantRecovered(t, what, left, behind, keeps(n), seen[happened])
			}
		}
	}
}

// P6.6: a Commit of as many blocks as there can be; its recovery cut once at any step.
func TestLongCommitCutAnywhere(t *testing.T) {
	r := rand.New(rand.NewSource(1))
	image, l := noise(1, 196), blocks(96, 98, 1)
	for at := 1; at <= 199; at++ {
		for _, keep := range fewKeeps(r, 96)[r.Intn(2)*2:][:2] {
			what := fmt.Sprintf("P6.6: 96 blocks, cut at %d", at)
			left, behind := cutCommit(t, what, image, l, api.Crash{At: at, Keep: keep})
			again := api.Crash{At: 1 + r.Intn(100), Keep: fewKeeps(r, 96)[r.Intn(4)]}
			left = cut(t, left, again, func(d *adisk.Disk) { wal.Recover(d) })
			wantRecovered(t, what, left, behind, nil, map[string]int{})
		}
	}
}

// P6.6: the second of two transactions cut anywhere: what the first one left stands, whatever becomes of the second.
func TestSecondCommitCutAnywhere(t *testing.T) {
	d := fresh(t, 111)
	first := roundabout(t, d, blocks(3, 98, 2))
	want(t, "P6.6: the first", first.Commit(), api.OK)
	image, l := d.Image(), []api.Block{{Num: 98, Bytes: full('x')}, {Num: 103, Bytes: full('y')}}
	for at := 1; at <= 11; at++ {
		for _, keep := range keeps(2) {
			what := fmt.Sprintf("P6.6: the second, cut at %d, keep %v", at, keep)
			left, behind := cutCommit(t, what, image, l, api.Crash{At: at, Keep: keep})
			wantRecovered(t, what, left, behind, keeps(2), map[string]int{})
		}
	}
}

// said is a transaction that says the chapter's words plainly, over a disk of its own: it has nothing but the row of puts.
type said struct {
	disk *adisk.Disk
	row  []api.Block
	over bool
}

func (s *said) put() []api.Block {
	var l []api.Block
	for i := range s.disk.Blocks() {
		for _, b := range slices.Backward(s.row) {
			if b.Num == i {
				l = append(l, b)
				break
			}
		}
	}
	return l
}

func (s *said) numbers() []int {
	var nums []int
	if !s.over {
		for _, b := range s.put() {
			nums = append(nums, b.Num)
		}
	}
	return nums
}

func (s *said) read(i int) ([]byte, api.Errno) {
	if s.over {
		return nil, api.ErrOver
	}
	if i < 0 || i >= s.disk.Blocks() {
		return nil, api.ErrBlock
	}
	for _, b := range s.put() {
		if b.Num == i {
			return b.Bytes, api.OK
		}
	}
	return s.disk.Read(i)
}

func (s *said) write(i int, b []byte) api.Errno {
	switch nums := s.numbers(); {
	case s.over:
		return api.ErrOver
	case i < 98 || i >= s.disk.Blocks():
		return api.ErrBlock
	case len(b) != 512:
		return api.ErrSize
	case !slices.Contains(nums, i) && len(nums) == 96:
		return api.ErrTooBig
	}
	s.row = append(s.row, api.Block{Num: i, Bytes: slices.Clone(b)})
	return api.OK
}

func (s *said) mark() (int, api.Errno) {
	if s.over {
		return 0, api.ErrOver
	}
	return len(s.row), api.OK
}

func (s *said) back(mark int) api.Errno {
	if s.over {
		return api.ErrOver
	}
	if mark < 0 || mark > len(s.row) {
		return api.ErrMark
	}
	s.row = slices.Clone(s.row[:mark])
	return api.OK
}

func (s *said) commit() api.Errno {
	if s.over {
		return api.ErrOver
	}
	s.over = true
	return wal.Commit(s.disk, s.put())
}

// anyCall makes one call of a transaction and of the one that says it plainly, and tells which, with its error.
func anyCall(t *testing.T, what string, r *rand.Rand, x *txn.Txn, s *said) string {
	t.Helper()
	n := s.disk.Blocks()
	i := 95 + r.Intn(n-90)
	switch r.Intn(20) {
	default:
		b := full(byte(r.Intn(256)))
		if r.Intn(10) == 0 {
			b = make([]byte, 511+r.Intn(3))
		}
		code := s.write(i, b)
		want(t, what+": Write", x.Write(i, b), code)
		spoil(b)
		return fmt.Sprint("write ", code)
	case 0, 1, 2, 3:
		if r.Intn(4) == 0 {
			i = r.Intn(n+2) - 1
		}
		b, code := s.read(i)
		got, e := x.Read(i)
		if e != code || !bytes.Equal(got, b) {
			t.Errorf("%s: Read(%d): %d, want %d, or other bytes", what, i, e, code)
		}
		return fmt.Sprint("read ", code)
	case 4:
		mark := len(s.row) - r.Intn(6)
		if r.Intn(3) == 0 {
			mark = r.Intn(len(s.row)+4) - 2
		}
		code := s.back(mark)
		want(t, what+": Back", x.Back(mark), code)
		return fmt.Sprint("back ", code)
	case 5:
		m, code := s.mark()
		if got, e := x.Mark(); got != m || e != code {
			t.Errorf("%s: Mark: %d, %d, want %d, %d", what, got, e, m, code)
		}
		return fmt.Sprint("mark ", code)
	}
}

// anyEnd sometimes ends a transaction; the power may go in that.
func anyEnd(t *testing.T, what string, r *rand.Rand, x *txn.Txn, s *said, d *adisk.Disk) string {
	t.Helper()
	switch r.Intn(150) {
	case 0:
		x.Abort()
		s.over = true
		return "abort"
	case 1, 2, 3:
		if r.Intn(2) == 0 {
			c := api.Crash{At: 1 + r.Intn(40), Keep: keeps(3)[r.Intn(8)]}
			d.Arm(c)
			s.disk.Arm(c)
		}
		code := s.commit()
		want(t, what+": Commit", x.Commit(), code)
		return fmt.Sprint("commit ", code)
	case 4:
		keep := keeps(3)[r.Intn(8)]
		d.Crash(keep)
		s.disk.Crash(keep)
		return "power"
	}
	return "goes on"
}

// anyBegin begins a transaction and one that says it plainly, sometimes with nearly as many blocks put as there can be.
func anyBegin(t *testing.T, what string, r *rand.Rand, d, plain *adisk.Disk) (*txn.Txn, *said) {
	t.Helper()
	x, s := txn.Begin(d), &said{disk: plain}
	if d.Blocks() >= 196 && r.Intn(2) == 0 {
		for _, k := range r.Perm(96)[:90+r.Intn(7)] {
			b := full(byte(r.Intn(256)))
			want(t, what, x.Write(98+k, b), s.write(98+k, b))
		}
	}
	return x, s
}

// anyRow is a row of calls of transactions over one disk, and over what its power cuts leave.
func anyRow(t *testing.T, what string, r *rand.Rand, n int, counts map[string]int) {
	image := noise(r.Int63(), n)
	d, plain := opened(t, image), opened(t, image)
	x, s := anyBegin(t, what, r, d, plain)
	for range 400 {
		counts[anyCall(t, what, r, x, s)]++
		counts[anyEnd(t, what, r, x, s, d)]++
		wantWritten(t, what, x, s.numbers()...)
		wantOver(t, what, x, s.over)
		if t.Failed() {
			return
		}
		if s.over && r.Intn(10) == 0 {
			wantState(t, what, d, state(plain))
			if d.Down() {
				d, plain = opened(t, d.Image()), opened(t, plain.Image())
				wal.Recover(d)
				wal.Recover(plain)
			}
			x, s = anyBegin(t, what, r, d, plain)
		}
	}
	wantState(t, what, d, state(plain))
}

// P6.1 to P6.8: any calls, held against the chapter's words said plainly.
func TestAnyCalls(t *testing.T) {
	r := rand.New(rand.NewSource(6))
	counts := map[string]int{}
	for row := range 150 {
		n := []int{97, 98, 99, 102, 110, 196, 250}[r.Intn(7)]
		anyRow(t, fmt.Sprintf("P6.1 to P6.8: row %d, %d blocks", row, n), r, n, counts)
		if t.Failed() {
			return
		}
	}
	for _, c := range []string{"write E0", "write E31", "write E32", "write E60", "write E61", "read E0", "read E30", "read E31", "read E61", "back E0", "back E62", "back E61", "mark E0", "mark E61", "commit E0", "commit E30", "commit E61", "abort", "power"} {
		if counts[c] < 20 {
			t.Errorf("the rows have %q only %d times", c, counts[c])
		}
	}
}
