package slots_test

import (
	"testing"

	"bole/api"
)

// P14.2: each place, name and inode that may be; the bytes are those of the chapter's words, the others as before.
func TestPut(t *testing.T) {
	for _, b := range samples() {
		for k := range 16 {
			wantPut(t, b, cell(k, "oak", 3), with(b, k, raw(3, 0, 0, 0, 3, 'o', 'a', 'k')), api.OK)
			wantPut(t, b, cell(k, rep("y", 27), topNode), with(b, k, append([]byte{255, 255, 255, 255, 27}, rep("y", 27)...)), api.OK)
		}
		for _, name := range names() {
			wantPutPlain(t, b, cell(11, name, 0x04030201))
		}
		for _, n := range inodes() {
			wantPutPlain(t, b, cell(11, "a", n))
		}
	}
	wantPut(t, zeros(), cell(1, "a", 0x04030201), with(zeros(), 1, raw(1, 2, 3, 4, 1, 'a')), api.OK)
}

// P14.2: of a shorter name nothing of the longer one that stood there is left.
func TestPutOver(t *testing.T) {
	for n := 1; n <= 27; n++ {
		for m := 1; m <= 27; m++ {
			b := blockOf(cell(4, rep("x", n), topNode), cell(5, "beside", 2))
			wantPut(t, b, cell(4, rep("y", m), 1), blockOf(cell(4, rep("y", m), 1), cell(5, "beside", 2)), api.OK)
		}
	}
}

// P14.2, P14.3: over a cell that is wrong, and beside cells that are wrong: what they are isn't asked.
func TestWrongBlocksAreWritten(t *testing.T) {
	for k := range 16 {
		e := cell(k, "new", 77)
		for _, c := range wrongCells() {
			for _, b := range samples() {
				b = with(b, k, c)
				wantPut(t, b, e, with(b, k, plainBytes(e)), api.OK)
				wantClear(t, b, k, with(b, k, raw()), api.OK)
				b = with(b, (k+5)%16, c)
				wantPut(t, b, e, with(b, k, plainBytes(e)), api.OK)
				wantClear(t, b, k, with(b, k, raw()), api.OK)
			}
		}
		wantPut(t, broken(), e, with(broken(), k, plainBytes(e)), api.OK)
		wantClear(t, broken(), k, with(broken(), k, raw()), api.OK)
	}
}

// P14.2: what is refused, one thing wrong and several; of right blocks and of others, and nothing has changed.
func TestPutRefused(t *testing.T) {
	for _, b := range append(samples(), broken()) {
		for _, k := range noPlaces() {
			wantPut(t, b, cell(k, "a", 1), b, api.ErrCell)
			wantPut(t, b, cell(k, "", 0), b, api.ErrCell)
		}
		for _, n := range noInodes() {
			wantPut(t, b, cell(0, "a", n), b, api.ErrCell)
			wantPut(t, b, cell(15, "/", n), b, api.ErrCell)
		}
		for _, s := range noNames() {
			wantPut(t, b, cell(3, s, 1), b, api.ErrCell)
		}
		wantPut(t, b, api.Entry{}, b, api.ErrCell)
	}
}

// P14.3: each place, in each kind of block; what stood there is gone, the others are as before.
func TestClear(t *testing.T) {
	for _, b := range append(samples(), broken()) {
		for k := range 16 {
			once := wantClear(t, b, k, with(b, k, raw()), api.OK)
			wantClear(t, once, k, once, api.OK)
		}
		for _, k := range noPlaces() {
			wantClear(t, b, k, b, api.ErrCell)
		}
	}
}

// ErrSize comes first at each call, whatever else is wrong, and nothing has changed.
func TestSizeFirst(t *testing.T) {
	for _, b := range noBlocks() {
		wantWrong(t, b, api.ErrSize)
		for _, e := range []api.Entry{cell(0, "a", 1), cell(15, "a", 1), cell(16, "a", 1), cell(-1, "a", 1), cell(0, "", 1), cell(0, "a", 0), cell(0, rep("x", 28), 1), cell(most, "..", least), {}} {
			wantPut(t, b, e, b, api.ErrSize)
		}
		for _, k := range append(noPlaces(), 0, 1, 15) {
			wantClear(t, b, k, b, api.ErrSize)
		}
	}
}

// Of a length below or above 512 that is 512 in its lower bytes.
func TestFarTooLong(t *testing.T) {
	for _, n := range []int{1<<16 + 512, 1 << 16, 1<<20 + 512} {
		b := make([]byte, n)
		wantWrong(t, b, api.ErrSize)
		wantPut(t, b, cell(0, "a", 1), b, api.ErrSize)
		wantClear(t, b, 0, b, api.ErrSize)
	}
}
