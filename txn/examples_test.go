package txn_test

import (
	"fmt"
	"testing"

	"bole/api"
	"bole/txn"
	"bole/wal"
)

// Example 1: P6.3, P6.2, P6.4, P6.6, and then ErrOver.
func TestExample1(t *testing.T) {
	d := fresh(t, 120)
	x := txn.Begin(d)
	want(t, "Write", x.Write(98, full('A')), api.OK)
	wantRead(t, "its own", x, 98, full('A'))
	wantRead(t, "the disk's", d, 98, full(0))
	wantSteps(t, "ahead of the Commit", d, 0, 0)
	wantWritten(t, "ahead of the Commit", x, 98)
	want(t, "Commit", x.Commit(), api.OK)
	wantSteps(t, "behind the Commit", d, 4, 4)
	wantRead(t, "behind the Commit", d, 98, full('A'))
	wantAllOver(t, "behind the Commit", x, d)
}

// Example 2: P6.2, P6.3.
func TestExample2(t *testing.T) {
	x := txn.Begin(fresh(t, 120))
	want(t, "Write(97)", x.Write(97, full('A')), api.ErrBlock)
	want(t, "Write(120)", x.Write(120, full('A')), api.ErrBlock)
	want(t, "Write(-1)", x.Write(-1, make([]byte, 3)), api.ErrBlock)
	want(t, "Write(98)", x.Write(98, make([]byte, 3)), api.ErrSize)
	wantRead(t, "zeros", x, 0, full(0))
	wantRead(t, "zeros", x, 97, full(0))
	wantNoRead(t, "outside", x, 120, api.ErrBlock)
	wantMark(t, "what is refused is not in the row", x, 0)
}

// Example 3: P6.5.
func TestExample3(t *testing.T) {
	x := txn.Begin(fresh(t, 120))
	wantMark(t, "at first", x, 0)
	mustPut(t, x, 'A', 98)
	wantMark(t, "behind one", x, 1)
	mustPut(t, x, 'B', 98, 99)
	wantMark(t, "behind three", x, 3)
	want(t, "Back(4)", x.Back(4), api.ErrMark)
	want(t, "Back(-1)", x.Back(-1), api.ErrMark)
	want(t, "Back(1)", x.Back(1), api.OK)
	wantRead(t, "Back(1)", x, 98, full('A'))
	wantRead(t, "Back(1)", x, 99, full(0))
	wantWritten(t, "Back(1)", x, 98)
	wantMark(t, "Back(1)", x, 1)
	want(t, "Back(3)", x.Back(3), api.ErrMark)
	want(t, "Back(1)", x.Back(1), api.OK)
	want(t, "Back(0)", x.Back(0), api.OK)
	wantWritten(t, "Back(0)", x)
	want(t, "Back(0)", x.Back(0), api.OK)
}

// Example 4: P6.3.
func TestExample4(t *testing.T) {
	d := fresh(t, 300)
	x := txn.Begin(d)
	for i := range 96 {
		mustPut(t, x, 'A', 98+i)
	}
	want(t, "the ninety-seventh", x.Write(98+96, full('A')), api.ErrTooBig)
	want(t, "one of the 96 again", x.Write(98, full('B')), api.OK)
	want(t, "Back", x.Back(95), api.OK)
	want(t, "room again", x.Write(98+96, full('A')), api.OK)
}

// Example 5: P6.6, P6.2.
func TestExample5(t *testing.T) {
	d := fresh(t, 120)
	want(t, "Commit of nothing", txn.Begin(d).Commit(), api.OK)
	x := txn.Begin(d)
	mustPut(t, x, 'A', 98)
	d.Crash(nil)
	wantRead(t, "put", x, 98, full('A'))
	wantNoRead(t, "not put", x, 99, api.ErrDown)
	want(t, "Commit", x.Commit(), api.ErrDown)
	wantOver(t, "behind the Commit", x, true)
	want(t, "Commit of nothing, down", txn.Begin(d).Commit(), api.OK)
	wantSteps(t, "in all", d, 0, 0)
}

// Example 6: P6.6.
func TestExample6(t *testing.T) {
	for _, c := range []struct {
		crash api.Crash
		n     int
	}{
		{api.Crash{At: 5}, 0},
		{api.Crash{At: 5, Keep: []bool{true}}, 2},
		{api.Crash{At: 6}, 2},
		{api.Crash{At: 6, Keep: []bool{true}}, 2},
	} {
		what := fmt.Sprintf("cut at %d, keep %v", c.crash.At, c.crash.Keep)
		d := fresh(t, 120)
		x := txn.Begin(d)
		mustPut(t, x, 'B', 99)
		mustPut(t, x, 'A', 98)
		d.Arm(c.crash)
		want(t, what, x.Commit(), api.ErrDown)
		wantOver(t, what, x, true)
		y := opened(t, d.Image())
		if n, e := wal.Recover(y); n != c.n || e != api.OK {
			t.Errorf("%s: Recover: %d, %d, want %d", what, n, e, c.n)
		}
		there := byte(c.n / 2)
		wantRead(t, what, y, 98, full('A'*there))
		wantRead(t, what, y, 99, full('B'*there))
	}
}
