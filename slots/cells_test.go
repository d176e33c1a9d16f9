package slots_test

import (
	"bytes"
	"slices"
	"testing"

	"bole/api"
)

// P14.1, P14.4: no cell taken, one at each place, all but one, all sixteen.
func TestHowManyAreTaken(t *testing.T) {
	wantBoth(t, zeros(), nil, 0, api.OK)
	var full []api.Entry
	for k := range 16 {
		full = append(full, cell(k, "name"+rep("y", k), k+1))
	}
	wantBoth(t, blockOf(full...), full, -1, api.OK)
	for k := range 16 {
		low := 0
		if k == 0 {
			low = 1
		}
		wantBoth(t, blockOf(full[k]), full[k:k+1], low, api.OK)
		others := slices.Concat(full[:k], full[k+1:])
		wantBoth(t, blockOf(others...), others, k, api.OK)
		wantBoth(t, blockOf(full[:k]...), full[:k], k, api.OK)
	}
	wantBoth(t, blockOf(full[3:9]...), full[3:9], 0, api.OK)
}

// P14.1: the cells are told by rising Place, whatever their names and inodes are.
func TestRisingPlace(t *testing.T) {
	want := []api.Entry{cell(1, "z", 9), cell(4, "a", 3), cell(5, "m", topNode), cell(15, "b", 1)}
	b := zeros()
	for _, i := range []int{2, 0, 3, 1} {
		b = wantPut(t, b, want[i], with(b, want[i].Place, plainBytes(want[i])), api.OK)
	}
	wantBoth(t, b, want, 0, api.OK)
}

// P14.1: two cells may have the same name, the same inode, or both.
func TestSameName(t *testing.T) {
	for _, c := range []struct {
		low int
		l   []api.Entry
	}{
		{2, []api.Entry{cell(0, "a", 1), cell(1, "a", 2)}},
		{1, []api.Entry{cell(0, "a", 1), cell(15, "a", 1)}},
		{0, []api.Entry{cell(3, "a", 7), cell(4, "b", 7)}},
	} {
		wantBoth(t, blockOf(c.l...), c.l, c.low, api.OK)
	}
	var all []api.Entry
	for k := range 16 {
		all = append(all, cell(k, "same", 5))
	}
	wantBoth(t, blockOf(all...), all, -1, api.OK)
}

// P14.1: each number above 0 may be an inode's, each name a name, at the first, a middle and the last place.
func TestNamesAndInodes(t *testing.T) {
	for _, k := range []int{0, 8, 15} {
		for _, name := range names() {
			wantPlain(t, blockOf(cell(k, name, 5)))
			if _, err := plainPut(zeros(), cell(k, name, 5)); err != api.OK {
				t.Fatalf("%q is no name", name)
			}
		}
		for _, n := range inodes() {
			wantPlain(t, blockOf(cell(k, "name", n)))
		}
	}
}

// P14.1, P14.4: texts that are no names, in a cell of the length that they have.
func TestNoNames(t *testing.T) {
	count := 0
	for _, s := range noNames() {
		if len(s) <= 27 {
			wantWrong(t, with(zeros(), 5, named(len(s), s)), api.ErrCell)
			count++
		}
	}
	if count < 700 {
		t.Errorf("only %d texts", count)
	}
}

// P14.1, P14.4: each kind of wrong cell as the first, in the midst, as the last, among free ones and among taken ones.
func TestWrongCells(t *testing.T) {
	for what, c := range wrongCells() {
		if _, _, right := plainCell(c); right {
			t.Fatalf("%s is right", what)
		}
		for _, b := range samples() {
			for k := range 16 {
				wantWrong(t, with(b, k, c), api.ErrCell)
			}
		}
	}
	wantWrong(t, broken(), api.ErrCell)
}

// P14.1, P14.4: a free cell with any one byte that isn't zero, at each of its 32 places, in each cell.
func TestFreeCellsByte(t *testing.T) {
	for at := range 512 {
		for _, x := range []byte{1, 2, '.', '/', 'a', 127, 128, 255} {
			b := zeros()
			b[at] = x
			wantWrong(t, b, api.ErrCell)
			for _, s := range samples()[6:9] {
				if bytes.Equal(s[at/32*32:at/32*32+32], raw()) {
					now := bytes.Clone(s)
					now[at] = x
					wantWrong(t, now, api.ErrCell)
				}
			}
		}
	}
}

// P14.1, P14.4: each length byte beside a text of each length.
func TestLengthByte(t *testing.T) {
	for length := range 256 {
		for n := range 28 {
			b := with(zeros(), 9, named(length, rep("x", n)))
			if length == n && n > 0 {
				wantBoth(t, b, []api.Entry{cell(9, rep("x", n), 1)}, 0, api.OK)
			} else {
				wantWrong(t, b, api.ErrCell)
			}
		}
	}
}

// P14.1, P14.4: behind a name of each length a byte at each place.
func TestByteBehindName(t *testing.T) {
	for n := 1; n <= 26; n++ {
		for at := 5 + n; at < 32; at++ {
			for _, x := range []byte{1, 'a', '/', 255} {
				c := named(n, rep("x", n))
				c[at] = x
				wantWrong(t, with(zeros(), 15, c), api.ErrCell)
			}
		}
	}
}

// P14.1, P14.4: each byte value as a name of its own, and within one.
func TestEachByte(t *testing.T) {
	for x := range 256 {
		one, three := string([]byte{byte(x)}), string([]byte{'a', byte(x), 'b'})
		wantPlain(t, with(zeros(), 0, named(1, one)))
		wantPlain(t, with(zeros(), 0, named(3, three)))
		wantPutPlain(t, zeros(), cell(0, one, 1))
		wantPutPlain(t, zeros(), cell(0, three, 1))
	}
}

// P14.1, P14.4: each byte of a taken cell changed to each value: what is told is what the chapter's words say of it.
func TestEachByteOfACell(t *testing.T) {
	for _, e := range []api.Entry{cell(6, "ab", 258), cell(6, rep("x", 27), topNode), cell(6, "...", 1)} {
		for at := range 32 {
			for x := range 256 {
				b := blockOf(e)
				b[32*6+at] = byte(x)
				wantPlain(t, b)
			}
		}
	}
}
