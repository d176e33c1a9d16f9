package vfs_test

import (
	"crypto/sha256"
	"fmt"
	"math/rand"
	"slices"
	"testing"

	"bole/adisk"
	"bole/api"
	"bole/check"
	"bole/ram"
	"bole/vfs"
)

// keeps are ways to keep some of n pending writes: all that there are, of a few writes; else none, all, each alone, all but each, and some.
func keeps(r *rand.Rand, n int) [][]bool {
	var l [][]bool
	if n <= 7 {
		for set := range 1 << n {
			keep := make([]bool, n)
			for k := range keep {
				keep[k] = set>>k&1 == 1
			}
			l = append(l, keep)
		}
		return l
	}
	for _, most := range []bool{false, true} {
		l = append(l, slices.Repeat([]bool{most}, n))
		for k := range n {
			keep := slices.Repeat([]bool{most}, n)
			keep[k] = !most
			l = append(l, keep)
		}
	}
	for range 12 {
		keep := make([]bool, n)
		for k := range keep {
			keep[k] = r.Intn(2) == 0
		}
		l = append(l, keep)
	}
	return l
}

// pendingBehind is how many writes are pending behind acts.
func pendingBehind(acts []api.Act) int {
	n := 0
	for _, a := range acts {
		n++
		if a.Kind == api.ActFlush {
			n = 0
		}
	}
	return n
}

// cutter looks at all that power cuts can leave of a call, and of the mounts behind it.
type cutter struct {
	t     *testing.T
	r     *rand.Rand
	what  string
	seen  map[[32]byte]string // what a mount of an image leaves
	depth int                 // how many mounts are cut, one behind the other
	cuts  int
	about map[string]int
}

// behind is what power cuts leave of an image at each place of a row of steps. (A cut at a step leaves what one behind it does, of a write; of a flush what one ahead of it does: D1.)
func (c *cutter) behind(image []byte, acts []api.Act, do func(at int, left []byte)) {
	for at := range len(acts) + 1 {
		for _, keep := range keeps(c.r, pendingBehind(acts[:at])) {
			left, e := adisk.After(image, acts[:at], keep)
			if e != api.OK {
				c.t.Fatalf("P3.9: %d", e)
			}
			c.cuts++
			do(at, left)
		}
	}
}

// settle mounts what a power cut left, and all that power cuts in that mount leave, and in those behind it: all come to one state, which is told.
func (c *cutter) settle(image []byte, depth int) string {
	c.t.Helper()
	key := sha256.Sum256(image)
	if s, is := c.seen[key]; is {
		return s
	}
	if l := check.Image(image); !check.Clean(l) {
		c.t.Fatalf("P0.5: %s: check finds %v", c.what, few(l))
	}
	d := disk(c.t, image)
	f, e := vfs.Mount(d)
	if e != api.OK {
		c.t.Fatalf("P0.2: %s: Mount: %d", c.what, e)
	}
	state := sight(f)
	c.seen[key] = state
	if l := check.Image(d.Image()); len(l) > 0 || len(d.Pending()) > 0 {
		c.t.Fatalf("P0.2: %s: behind Mount check finds %v", c.what, few(l))
	}
	again := disk(c.t, d.Image())
	if _, e := vfs.Mount(again); e != api.OK || steps(again) > 0 {
		c.t.Fatalf("P0.3: %s: a mount behind a mount: %d, with %d steps", c.what, e, steps(again))
	}
	if depth == 0 {
		return state
	}
	c.behind(image, d.Tape(0), func(at int, left []byte) {
		if other := c.settle(left, depth-1); other != state {
			c.t.Fatalf("P0.2: %s: a mount cut behind %d steps, and then mounted, leaves\n%s\nwant\n%s", c.what, at, other, state)
		}
	})
	return state
}

// cut makes a call on an image again and again, the power going at each of its steps; and looks at all that this leaves.
func (c *cutter) cut(image []byte, m *ram.FS, p op) {
	c.t.Helper()
	c.what = p.String()
	ahead := sight(without(m))
	after := m.Copy()
	if o := p.on(after); o.e != api.OK {
		c.t.Fatalf("%v: %v", p, o)
	}
	behind := sight(without(after))

	b := c.begin(image, m)
	from := len(b.d.Tape(0))
	start := b.d.Image()
	b.does(p)
	tape := b.d.Tape(from)
	header := slices.IndexFunc(tape, func(a api.Act) bool { return a.Kind == api.ActWrite && a.Block == 1 })
	c.behind(start, tape, func(at int, left []byte) {
		state := c.settle(left, c.depth)
		switch {
		case state != ahead && state != behind:
			c.t.Fatalf("P0.2: %s, cut behind %d steps, leaves\n%s\nthe state ahead is\n%s\nand behind\n%s", c.what, at, state, ahead, behind)
		case at <= header && state != ahead || at >= header+2 && state != behind:
			c.t.Fatalf("P0.2, D2: %s, cut behind %d steps (the header is the step %d), leaves\n%s", c.what, at, header+1, state)
		}
		c.about[fmt.Sprint(state == ahead, state == behind)]++
	})
	for at := 1; at <= len(tape)+1; at++ {
		b := c.begin(image, m)
		keep := slices.Repeat([]bool{c.r.Intn(2) == 0, c.r.Intn(2) == 0, true}, 20)
		b.d.Arm(api.Crash{At: at, Keep: keep})
		if at > len(tape) {
			b.does(p)
			continue
		}
		b.findsDown(p)
		if state := c.settle(b.d.Image(), c.depth); state != ahead && state != behind {
			c.t.Fatalf("P0.2: %s, the power going at step %d, leaves\n%s", c.what, at, state)
		}
	}
}

// begin mounts an image; what the tree in memory has as orphans has the name "/held" and its number there still.
func (c *cutter) begin(image []byte, m *ram.FS) *box {
	c.t.Helper()
	b := opened(c.t, image)
	for _, n := range orphans(m) {
		b.does(unlinkAs(fmt.Sprint("/held", n), true))
	}
	return b
}

// P0.2, P0.3, P0.5: a power cut at each step of a call of each kind, with each part of what is pending kept, and at each step of the mounts behind it, any number of times: the state is that ahead of the call, or that behind it, with no orphan.
func TestCuts(t *testing.T) {
	t.Parallel()
	r := rand.New(rand.NewSource(20))
	d := fresh(t, 128)
	m, _ := ram.New(128)
	for _, p := range []op{
		mkdir("/d"), create("/f"), write("/f", 0, pattern(1500)), create("/d/g"), write("/d/g", 5000, pattern(300)), symlink("../f", "/d/s"), mkdir("/e"), create("/held7"), write("/held7", 0, "held"),
	} {
		d.does(p)
		if o := p.on(m); o.e != api.OK {
			t.Fatalf("%v: in memory %v", p, o)
		}
	}
	image := d.d.Image()
	unlinkAs("/held7", true).on(m)
	if l := orphans(m); !slices.Equal(l, []int{7}) {
		t.Fatalf("the orphans are %v", l)
	}
	c := &cutter{t: t, r: r, about: map[string]int{}}
	for _, p := range []op{
		create("/n"), create("/e/n"), mkdir("/d/n"), symlink("x", "/n"), link("/f", "/e/n"), unlink("/d/g"), unlinkAs("/f", true), rmdir("/e"), rename("/d", "/e"), renameAs("/f", "/d/g", true),
		rename("/d/s", "/f"), write("/f", 100, "x"), write("/f", 1400, pattern(700)), truncate("/f", 700), truncate("/d/g", 0), open("/n", true, true), writeAt(7, 3, "y"), cutAt(7, 1000), release(7),
	} {
		c.seen = map[[32]byte]string{}
		// As many as there are blocks that are put: no row of mounts that is longer finds anything new.
		c.depth = 40
		c.cut(image, m, p)
	}
	// Of many blocks there are too many parts.
	c.seen = map[[32]byte]string{}
	c.depth = 1
	c.cut(image, m, write("/f", 1000, pattern(4000)))
	if c.about["true false"] < 200 || c.about["false true"] < 200 || c.cuts < 10000 {
		t.Errorf("of %d cuts those in calls leave the state ahead and behind: %v", c.cuts, c.about)
	}
}

// cutRow is a row of calls in which the power goes, in calls and in mounts.
type cutRow struct {
	*row
	cuts, inMounts, twice, ahead, behind int
}

// keep is any part of what is pending.
func (a *cutRow) keep() []bool {
	l := make([]bool, a.r.Intn(60))
	often := 1 + a.r.Intn(4)
	for k := range l {
		l[k] = a.r.Intn(often) == 0
	}
	return l
}

// on brings the power back, till a mount isn't cut.
func (a *cutRow) on(image []byte) {
	a.t.Helper()
	for round := 0; ; round++ {
		if l := check.Image(image); !check.Clean(l) {
			a.t.Fatalf("P0.5: check finds %v", few(l))
		}
		d := disk(a.t, image)
		if a.r.Intn(5) > 0 && round < 8 {
			d.Arm(api.Crash{At: 1 + a.r.Intn(8), Keep: a.keep()})
		}
		f, e := vfs.Mount(d)
		if d.Down() {
			if f != nil || e != api.ErrDown {
				a.t.Fatalf("P20.2: the power goes in Mount: %v, %d", f, e)
			}
			a.inMounts++
			if round > 0 {
				a.twice++
			}
			image = d.Image()
			continue
		}
		if f == nil || e != api.OK {
			a.t.Fatalf("P0.2: Mount: %d", e)
		}
		d.Arm(api.Crash{})
		a.box = &box{a.t, d, f}
		return
	}
}

// cutOne makes a call with the power going somewhere about it.
func (a *cutRow) cutOne(p op) {
	a.t.Helper()
	ahead, after := without(a.m), a.m.Copy()
	want := p.on(after)
	before := a.d.Image()
	a.d.Arm(api.Crash{At: 1 + a.r.Intn(24), Keep: a.keep()})
	got := a.call(p)
	if !a.d.Down() {
		if !same(got, want) {
			a.t.Fatalf("P0.1: %v: %v, want %v", p, got, want)
		}
		a.m = after
		// Between two calls, or with another one's step.
		if a.r.Intn(2) == 0 {
			a.d.Crash(a.keep())
			a.on(a.d.Image())
			a.m = without(a.m)
			a.hold()
			return
		}
		a.d.Arm(api.Crash{})
		return
	}
	a.cuts++
	if !same(got, p.refusal(api.ErrDown)) || want.e != api.OK {
		a.t.Fatalf("P20.8: the power goes in %v: %v (without that: %v)", p, got, want)
	}
	a.on(a.d.Image())
	after = without(after)
	switch state := sight(a); state {
	case sight(after):
		a.m = after
		a.behind++
	case sight(ahead):
		a.m = ahead
		a.ahead++
	default:
		a.t.Fatalf("P0.2: %v, cut, leaves\n%s\nthe state ahead is\n%s\nand behind\n%s\nof an image of %d bytes", p, state, sight(ahead), sight(after), len(before))
	}
	a.right(p)
}

// P0.2, P0.5: rows of any calls with power cuts at any steps, in calls, in recoveries, in the release of orphans, between calls, each keeping any part of what is pending.
func TestCutRows(t *testing.T) {
	t.Parallel()
	sum := &cutRow{}
	for seed := range int64(130) {
		r := rand.New(rand.NewSource(seed))
		a := &cutRow{row: newRow(t, r, []int{128, 128, 190}[r.Intn(3)], []string{"abc", "abcdefghijklmnop"}[r.Intn(2)])}
		for range 90 {
			if a.r.Intn(3) == 0 {
				a.cutOne(a.change(a.m))
				continue
			}
			a.both(a.any(a.m))
		}
		a.hold()
		sum.cuts += a.cuts
		sum.inMounts += a.inMounts
		sum.twice += a.twice
		sum.ahead += a.ahead
		sum.behind += a.behind
	}
	if sum.cuts < 300 || sum.inMounts < 80 || sum.twice < 15 || sum.ahead < 80 || sum.behind < 80 {
		t.Errorf("the power went %d times in calls, %d times in mounts, of which %d were not the first; the state was that ahead %d times, that behind %d times", sum.cuts, sum.inMounts, sum.twice, sum.ahead, sum.behind)
	}
}
