package slots_test

import (
	"bytes"
	"testing"

	"bole/api"
	"bole/slots"
)

// P14.1, P14.2, P14.4: the chapter's example 1.
func TestExamplePut(t *testing.T) {
	z := zeros()
	wantBoth(t, z, nil, 0, api.OK)
	if e := slots.Put(z, cell(2, "ab", 258)); e != api.OK {
		t.Errorf("Put: %d", e)
	}
	if !bytes.Equal(z[64:96], raw(2, 1, 0, 0, 2, 0x61, 0x62)) || !bytes.Equal(z[:64], make([]byte, 64)) || !bytes.Equal(z[96:], make([]byte, 416)) {
		t.Errorf("P14.2: %s", short(z))
	}
	wantBoth(t, z, []api.Entry{cell(2, "ab", 258)}, 0, api.OK)
}

// P14.1 to P14.4: the chapter's example 2.
func TestExampleLongName(t *testing.T) {
	z := blockOf(cell(2, "ab", 258))
	long := cell(0, rep("x", 27), 4294967295)
	if e := slots.Put(z, long); e != api.OK {
		t.Errorf("Put: %d", e)
	}
	want := append([]byte{0xFF, 0xFF, 0xFF, 0xFF, 0x1B}, bytes.Repeat([]byte{0x78}, 27)...)
	if !bytes.Equal(z[:32], want) {
		t.Errorf("P14.2: %s", short(z))
	}
	wantBoth(t, z, []api.Entry{long, cell(2, "ab", 258)}, 1, api.OK)
	if e := slots.Clear(z, 0); e != api.OK {
		t.Errorf("Clear: %d", e)
	}
	wantBoth(t, z, []api.Entry{cell(2, "ab", 258)}, 0, api.OK)
	wantClear(t, z, 16, z, api.ErrCell)
	wantClear(t, z, -1, z, api.ErrCell)
}

// P14.2: the chapter's example 3.
func TestExampleRefused(t *testing.T) {
	z := blockOf(cell(2, "ab", 258))
	for _, e := range []api.Entry{
		cell(16, "a", 1), cell(-1, "a", 1),
		cell(0, "a", 0), cell(0, "a", -1), cell(0, "a", 4294967296),
		cell(0, "", 1), cell(0, ".", 1), cell(0, "..", 1), cell(0, "a/b", 1), cell(0, "a\x00", 1), cell(0, rep("x", 28), 1),
	} {
		wantPut(t, z, e, z, api.ErrCell)
	}
}

// P14.1: the chapter's example 4.
func TestExampleWrong(t *testing.T) {
	wantWrong(t, make([]byte, 511), api.ErrSize)
	wantWrong(t, make([]byte, 513), api.ErrSize)
	wantWrong(t, nil, api.ErrSize)
	for _, c := range [][]byte{raw(0, 0, 0, 0, 0, 1), raw(1), raw(1, 0, 0, 0, 2, 0x61), raw(1, 0, 0, 0, 1, 0x61, 0x62), named(0x1C, rep("a", 27))} {
		wantWrong(t, with(zeros(), 0, c), api.ErrCell)
	}
}

// P14.4: the chapter's example 5.
func TestExampleFull(t *testing.T) {
	z := zeros()
	for k := range 16 {
		if e := slots.Put(z, cell(k, "n", k+1)); e != api.OK {
			t.Errorf("Put: %d", e)
		}
	}
	if n, e := slots.Lowest(z); n != -1 || e != api.OK {
		t.Errorf("P14.4: Lowest of a full block: %d, %d", n, e)
	}
}
