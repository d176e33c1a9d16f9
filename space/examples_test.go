package space_test

import (
	"testing"

	"bole/api"
)

// asMade is a bitmap's bits behind mkfs on a disk of 128 blocks, byte by byte as the chapter's examples have it.
func asMade(k int) bool {
	switch k / 8 {
	case 12:
		return 0x1F>>(k%8)&1 == 1
	case 13, 14, 15:
		return false
	}
	return true
}

// Examples 1 and 2: taken, asked for, given back, taken again.
func TestExamplesOneAndTwo(t *testing.T) {
	g := laid(t, 128)
	_, x := begun(t, g, asMade)
	wantFree(t, "example 1", x, g, 27)
	wantTake(t, "example 1", x, g, 101)
	wantWritten(t, "example 1", x, 98, 101)
	if b, _ := x.Read(98); len(b) != size || b[12] != 0x3F {
		t.Error("example 1: byte 12 is no 3F")
	}
	wantRead(t, "example 1", x, 101, make([]byte, size))
	wantTake(t, "example 1", x, g, 102)
	wantFree(t, "example 1", x, g, 25)
	wantUsed(t, "example 1", x, g, 101, true)
	wantUsed(t, "example 1", x, g, 103, false)
	wantUsed(t, "example 1", x, g, 0, true)
	wantNoUsed(t, "example 1", x, g, 128, api.ErrBlock)
	wantNoUsed(t, "example 1", x, g, -1, api.ErrBlock)

	wantGive(t, "example 2", x, g, 101, api.OK)
	for _, i := range []int{101, 100, 128, -5} {
		wantGive(t, "example 2", x, g, i, api.ErrFree)
	}
	wantTake(t, "example 2", x, g, 101)
	mustPut(t, x, 102, full(9))
	wantGive(t, "example 2", x, g, 102, api.OK)
	wantRead(t, "example 2", x, 102, full(9))
	wantWritten(t, "example 2", x, 98, 101, 102)
}

// Example 3: till none is free.
func TestExampleThree(t *testing.T) {
	g := laid(t, 128)
	_, x := begun(t, g, asMade)
	for i := 101; i < 128; i++ {
		wantTake(t, "example 3", x, g, i)
	}
	wantNoTake(t, "example 3", x, g, api.ErrSpace)
	wantGive(t, "example 3", x, g, 120, api.OK)
	wantTake(t, "example 3", x, g, 120)
	wantNoTake(t, "example 3", x, g, api.ErrSpace)
}

// Example 4: no room for the block, and for one of both.
func TestExampleFour(t *testing.T) {
	g := laid(t, 300)
	for count, also := range map[int][]int{96: {98}, 95: nil} {
		d, x := stuffed(t, g, func(k int) bool { return !isData(g, k) || k < 105 }, count, also...)
		still(t, "example 4", d, x, g, func() { wantNoTake(t, "example 4", x, g, api.ErrTooBig) })
		if b, _ := x.Read(98); len(b) != size || b[13] != 0x01 {
			t.Error("example 4: byte 13 is not as it was")
		}
	}
}

// Example 5: two bitmap blocks.
func TestExampleFive(t *testing.T) {
	g := laid(t, 4200)
	_, x := begun(t, g, onlyFree(4100))
	wantTake(t, "example 5", x, g, 4100)
	wantWritten(t, "example 5", x, 99, 4100)
}
