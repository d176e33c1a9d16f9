package wal_test

import (
	"bytes"
	"fmt"
	"math/rand"
	"slices"
	"testing"

	"bole/adisk"
	"bole/api"
	"bole/wal"
)

// keeps are all lists of n bools.
func keeps(n int) [][]bool {
	lists := [][]bool{nil}
	for range n {
		var longer [][]bool
		for _, l := range lists {
			longer = append(longer, append(slices.Clone(l), false), append(slices.Clone(l), true))
		}
		lists = longer
	}
	return lists
}

// fewKeeps are none, all, each end alone, and two of any.
func fewKeeps(r *rand.Rand, n int) [][]bool {
	lists := make([][]bool, 6)
	for k := range lists[1:] {
		lists[k+1] = make([]bool, n)
		for i := range n {
			lists[k+1][i] = k == 0 || k == 1 && i == 0 || k == 2 && i == n-1 || k > 2 && r.Intn(2) == 0
		}
	}
	return lists
}

// cutActs are the acts that a row leaves on the tape, if the power goes at a step: a flush at which it goes does nothing.
func cutActs(acts []api.Act, at int) []api.Act {
	if at > len(acts) {
		return acts
	}
	if acts[at-1].Kind == api.ActFlush {
		return acts[:at-1]
	}
	return acts[:at]
}

func steps(acts []api.Act) (writes, flushes int) {
	for _, a := range acts {
		if a.Kind == api.ActFlush {
			flushes++
		} else {
			writes++
		}
	}
	return writes, flushes
}

// wantCut holds that a call, to be cut at a step of these acts, has answered and done what it should: what lasts is told.
func wantCut(t *testing.T, what string, d *adisk.Disk, e api.Errno, image []byte, acts []api.Act, c api.Crash) []byte {
	t.Helper()
	want := api.OK
	if c.At <= len(acts) {
		want = api.ErrDown
	}
	if e != want || d.Down() != (want != api.OK) {
		t.Fatalf("%s: %d, want %d", what, e, want)
	}
	writes, flushes := steps(acts[:min(c.At, len(acts))])
	wantSteps(t, what, d, writes, flushes)
	taken := cutActs(acts, c.At)
	wantTape(t, what, d, 0, taken)
	lasts, _ := adisk.After(image, taken, c.Keep)
	if !bytes.Equal(d.Image(), lasts) {
		t.Fatalf("%s: other bytes last", what)
	}
	return lasts
}

// aside is an image without the blocks 2 to 97, of which P5.4 says nothing.
func aside(image []byte) []byte {
	return slices.Concat(image[:2*size], image[98*size:])
}

// headerLasts is P5.4's word on when a commit of n blocks has happened: its header's write is step n + 2, the flush n + 3.
func headerLasts(n int, c api.Crash) bool {
	kept := len(c.Keep) > 0 && c.Keep[0]
	return c.At > n+3 || c.At >= n+2 && kept
}

// cutCommit cuts a commit, and holds what P5.1 and P5.4 say of that, and P5.3 of the recovery behind it.
func cutCommit(t *testing.T, image []byte, l []api.Block, c api.Crash) {
	t.Helper()
	what := fmt.Sprintf("P5.4: %d blocks, cut at %d, keep %v", len(l), c.At, c.Keep)
	d := opened(t, image)
	d.Arm(c)
	lasts := wantCut(t, what, d, wal.Commit(d, l), image, plainCommit(l), c)
	want := image
	if headerLasts(len(l), c) {
		want = placed(image, l)
	}
	x := opened(t, lasts)
	b, e := wal.Behind(x)
	if e != api.OK || !bytes.Equal(aside(b), aside(want)) {
		t.Fatalf("%s: Behind: %d, or other bytes", what, e)
	}
	wantSteps(t, what, x, 0, 0)
	held, _ := plainLog(lasts)
	wantRecover(t, what, x, len(held), api.OK)
	if !bytes.Equal(x.Image(), b) {
		t.Fatalf("%s: other bytes behind the recovery", what)
	}
}

// P5.1, P5.4: commits of a few blocks cut at every step, with every Keep; the last step is one behind the end.
func TestCommitCutAnywhere(t *testing.T) {
	for n := 1; n <= 4; n++ {
		image, l := noise(int64(n), 111), blocks(run(n, 98, 4)...)
		for at := 1; at <= 2*n+7; at++ {
			for _, keep := range keeps(n) {
				cutCommit(t, image, l, api.Crash{At: at, Keep: keep})
			}
		}
	}
}

// P5.4: a commit of as many blocks as the log takes.
func TestLongCommitCutAnywhere(t *testing.T) {
	r := rand.New(rand.NewSource(1))
	image, l := noise(1, 194), blocks(run(96, 98, 1)...)
	for at := 1; at <= 199; at++ {
		for _, keep := range fewKeeps(r, 96)[r.Intn(2)*3:][:3] {
			cutCommit(t, image, l, api.Crash{At: at, Keep: keep})
		}
	}
}

// P5.4: the second of two commits, in whose log the first one's data stand.
func TestSecondCommitCutAnywhere(t *testing.T) {
	d := fresh(t, 104)
	wantCommit(t, "P5.4: the first", d, blocks(98, 100, 102), api.OK)
	image, l := d.Image(), []api.Block{{Num: 98, Bytes: full('x')}, {Num: 103, Bytes: full('y')}}
	for at := 1; at <= 11; at++ {
		for _, keep := range keeps(2) {
			cutCommit(t, image, l, api.Crash{At: at, Keep: keep})
		}
	}
}

// P5.3, P5.4: example 3, said as it stands there.
func TestCutExample(t *testing.T) {
	for at := 1; at <= 10; at++ {
		for _, keep := range append(keeps(2), nil, []bool{true}) {
			d := fresh(t, 100)
			d.Arm(api.Crash{At: at, Keep: keep})
			wantCommit(t, "P5.4", d, blocks(98, 99), api.ErrDown)
			kept := len(keep) > 0 && keep[0]
			there, n := at >= 6 || at >= 4 && kept, 0
			if at >= 4 && at <= 5 && kept || at >= 6 && at <= 8 || at >= 9 && !kept {
				n = 2
			}
			what := fmt.Sprintf("P5.4: cut at %d, keep %v", at, keep)
			x := opened(t, d.Image())
			b, e := wal.Behind(x)
			want := make([]byte, 2*size)
			if there {
				want = append(full('A'), full('B')...)
			}
			if e != api.OK || !bytes.Equal(b[98*size:], want) {
				t.Errorf("%s: Behind: %d, there should be %v", what, e, there)
			}
			wantRecover(t, what, x, n, api.OK)
		}
	}
}

// wantRecovered holds that a recovery of an image that isn't cut ends it.
func wantRecovered(t *testing.T, what string, image, behind []byte, n int) {
	t.Helper()
	d := opened(t, image)
	wantRecover(t, what, d, n, api.OK)
	if l, ok := plainLog(d.Image()); !ok || len(l) != 0 || len(d.Pending()) != 0 || !bytes.Equal(d.Image(), behind) {
		t.Fatalf("%s: the log isn't empty, some are pending, or other bytes last", what)
	}
	done := state(d)
	wantRecover(t, what+", again", d, 0, api.OK)
	wantState(t, what+", again", d, done)
	wantBehind(t, what+", again", d, behind, api.OK)
}

// cutRecoveries cuts the recovery of an image in all ways, and those of all that this leaves, till nothing is left that was not seen before.
func cutRecoveries(t *testing.T, what string, image, behind []byte, seen map[string]int) {
	t.Helper()
	if seen[string(image)]++; seen[string(image)] > 1 {
		return
	}
	held, _ := plainLog(image)
	wantBehind(t, what, opened(t, image), behind, api.OK)
	wantRecovered(t, what, image, behind, len(held))
	var acts []api.Act
	if len(held) > 0 {
		acts = plainRecovery(held)
	}
	for at := 1; at <= len(acts)+1; at++ {
		for _, keep := range keeps(len(held)) {
			c := api.Crash{At: at, Keep: keep}
			inner := fmt.Sprintf("%s, cut at %d, keep %v", what, at, keep)
			d := opened(t, image)
			d.Arm(c)
			n, e := wal.Recover(d)
			if n != 0 && e != api.OK || n != len(held) && e == api.OK {
				t.Fatalf("%s: Recover: %d, %d", inner, n, e)
			}
			cutRecoveries(t, inner, wantCut(t, inner, d, e, image, acts, c), behind, seen)
		}
	}
}

// P5.5: recoveries that are cut at every step with every Keep, and such behind them: with k blocks, any of them come home while the log stands, and all of them where it is empty.
func TestRecoverCutAnywhere(t *testing.T) {
	for n := range 5 {
		image, left := noise(int64(n), 108), 1
		if n > 0 {
			image, left = withLog(image, blocks(run(n, 98, 2)...)), 1<<n+1
		}
		seen := map[string]int{}
		cutRecoveries(t, fmt.Sprintf("P5.5: %d blocks", n), image, plainBehind(image), seen)
		if len(seen) != left {
			t.Errorf("P5.5: %d blocks: the cuts leave %d images, want %d", n, len(seen), left)
		}
	}
}

// P5.5: rows of recoveries of a full log, cut at any steps.
func TestLongRecoverCutAnywhere(t *testing.T) {
	r := rand.New(rand.NewSource(2))
	first := withLog(noise(3, 200), blocks(run(96, 100, 1)...))
	for row := range 30 {
		image, behind := first, plainBehind(first)
		for range 8 {
			what := fmt.Sprintf("P5.5: 96 blocks, row %d", row)
			d := opened(t, image)
			c := api.Crash{At: 1 + r.Intn(100), Keep: fewKeeps(r, 96)[r.Intn(6)]}
			d.Arm(c)
			held, _ := plainLog(image)
			_, e := wal.Recover(d)
			acts := plainRecovery(held)
			if len(held) == 0 {
				acts = nil
			}
			image = wantCut(t, what, d, e, image, acts, c)
			wantBehind(t, what, opened(t, image), behind, api.OK)
		}
	}
}

// P5.5: example 5.
func TestRecoverExample(t *testing.T) {
	image := withLog(make([]byte, 100*size), blocks(98, 99))
	for at := 1; at <= 3; at++ {
		for _, keep := range keeps(2) {
			d := opened(t, image)
			d.Arm(api.Crash{At: at, Keep: keep})
			wantRecover(t, "P5.5: cut", d, 0, api.ErrDown)
			x := opened(t, d.Image())
			wantRecover(t, "P5.5: behind the cut", x, 2, api.OK)
			b, e := wal.Behind(x)
			if e != api.OK || !bytes.Equal(b[98*size:], append(full('A'), full('B')...)) {
				t.Errorf("P5.5: cut at %d, keep %v: Behind: %d", at, keep, e)
			}
			wantRecover(t, "P5.5: once more", x, 0, api.OK)
			wantSteps(t, "P5.5: once more", x, 3, 2)
		}
	}
}

// plainDo carries out acts on a disk till one is refused.
func plainDo(d *adisk.Disk, acts []api.Act) api.Errno {
	for _, a := range acts {
		e := api.OK
		if a.Kind == api.ActFlush {
			e = d.Flush()
		} else {
			e = d.Write(a.Block, a.Bytes)
		}
		if e != api.OK {
			return e
		}
	}
	return api.OK
}

// saidCommit says P5.1 plainly.
func saidCommit(d *adisk.Disk, l []api.Block) api.Errno {
	if len(l) == 0 {
		return api.OK
	}
	if !plainMay(l, d.Blocks()) {
		return api.ErrNums
	}
	for _, b := range l {
		if len(b.Bytes) != size {
			return api.ErrSize
		}
	}
	return plainDo(d, plainCommit(l))
}

// saidBehind says P5.2 plainly, and which blocks the log holds.
func saidBehind(t *testing.T, d *adisk.Disk) ([]byte, []api.Block, api.Errno) {
	if d.Down() {
		return nil, nil, api.ErrDown
	}
	if d.Blocks() < 98 {
		return nil, nil, api.ErrBlock
	}
	image := plainRead(t, d)
	l, ok := plainLog(image)
	if !ok {
		return nil, nil, api.ErrHead
	}
	return plainBehind(image), l, api.OK
}

// saidRecover says P5.3 plainly.
func saidRecover(t *testing.T, d *adisk.Disk) (int, api.Errno) {
	_, l, e := saidBehind(t, d)
	if e != api.OK || len(l) == 0 {
		return 0, e
	}
	if e := plainDo(d, plainRecovery(l)); e != api.OK {
		return 0, e
	}
	return len(l), api.OK
}

// anyList may be refused for its numbers or its bytes.
func anyList(r *rand.Rand, n int) []api.Block {
	l := blocks(run(r.Intn(4), 98+r.Intn(3), 1+r.Intn(2))...)
	for i := range l {
		l[i].Bytes = full(byte(r.Intn(256)))
		if r.Intn(20) == 0 {
			l[i].Num = r.Intn(n + 3)
		}
		if r.Intn(8) == 0 {
			l[i].Bytes = make([]byte, 510+r.Intn(4))
		}
	}
	return l
}

// anyDisturbance is done to two disks alike: writes that make and spoil logs, flushes and power cuts.
func anyDisturbance(r *rand.Rand, disks ...*adisk.Disk) {
	num, l := []int{0, 1, 1, 1, 2, 3, 4, 97, 98, 99}[r.Intn(10)], blocks(98, 100)
	b := [][]byte{full(0), full(byte(r.Intn(3))), plainHeader(l), plainHeader(l[:1]), full('A'), full('B')}[r.Intn(6)]
	c := api.Crash{At: r.Intn(15), Keep: keeps(4)[r.Intn(16)]}
	what, k := r.Intn(8), 1+r.Intn(2)
	for _, d := range disks {
		switch what {
		case 0:
			d.Arm(c)
		case 1, 2:
			d.Flush()
		case 3, 4:
			d.Write(1, plainHeader(l[:k]))
			d.Write(2, full('A'))
			d.Write(3, full('B'))
		default:
			d.Write(num, b)
		}
	}
}

// P5.1 to P5.5: any calls on any disks, held against the chapter's words said plainly.
func TestAnyCalls(t *testing.T) {
	r := rand.New(rand.NewSource(5))
	counts := map[string]int{}
	for row := range 400 {
		n := []int{97, 98, 99, 100, 101, 102}[r.Intn(6)]
		image := noise(int64(row), n)
		d, plain := opened(t, image), opened(t, image)
		for range 12 {
			what := fmt.Sprintf("P5.1 to P5.5: row %d, %d blocks", row, n)
			anyDisturbance(r, d, plain)
			switch r.Intn(3) {
			case 0:
				l := anyList(r, n)
				want := saidCommit(plain, l)
				wantCommit(t, what, d, l, want)
				counts[fmt.Sprint("commit ", want)]++
			case 1:
				b, _, want := saidBehind(t, plain)
				wantBehind(t, what, d, b, want)
				counts[fmt.Sprint("behind ", want)]++
			default:
				k, want := saidRecover(t, plain)
				wantRecover(t, what, d, k, want)
				counts[fmt.Sprint("recover ", k, want)]++
			}
			wantState(t, what, d, state(plain))
			if t.Failed() {
				return
			}
			if d.Down() && r.Intn(2) == 0 {
				d, plain = opened(t, d.Image()), opened(t, plain.Image())
			}
		}
	}
	for _, c := range []string{"commit E0", "commit E30", "commit E40", "commit E32", "behind E0", "behind E30", "behind E31", "behind E41", "recover 0 E0", "recover 1 E0", "recover 2 E0", "recover 0 E30", "recover 0 E31", "recover 0 E41"} {
		if counts[c] < 20 {
			t.Errorf("the rows have %q only %d times", c, counts[c])
		}
	}
}
