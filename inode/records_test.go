package inode_test

import (
	"bytes"
	"encoding/binary"
	"math"
	"math/rand"
	"slices"
	"testing"

	"bole/api"
	"bole/inode"
)

func wantBytes(t *testing.T, x api.Inode) {
	t.Helper()
	b, e := inode.Encode(x)
	if e != api.OK || !bytes.Equal(b, plainBytes(x)) {
		t.Errorf("P11.1: Encode(%v): %v, %d", x, b, e)
	}
	if y, e := inode.Decode(b); e != api.OK || y != x {
		t.Errorf("P11.2: Decode of Encode(%v): %v, %d", x, y, e)
	}
}

func wantNoBytes(t *testing.T, x api.Inode) {
	t.Helper()
	if b, e := inode.Encode(x); len(b) != 0 || e != api.ErrRecord {
		t.Errorf("P11.1: Encode(%v): %v, %d, want ErrRecord", x, b, e)
	}
}

func wantRecord(t *testing.T, b []byte, x api.Inode) {
	t.Helper()
	if y, e := inode.Decode(b); y != x || e != api.OK {
		t.Errorf("P11.2: Decode(%v): %v, %d, want %v", b, y, e, x)
	}
	if again, e := inode.Encode(x); e != api.OK || !bytes.Equal(again, b) {
		t.Errorf("P11.2: Encode of Decode(%v): %v, %d", b, again, e)
	}
}

func wantNoRecord(t *testing.T, b []byte, code api.Errno) {
	t.Helper()
	if y, e := inode.Decode(b); y != (api.Inode{}) || e != code {
		t.Errorf("P11.2: Decode(%v): %v, %d, want %d", b, y, e, code)
	}
}

// P11.1, P11.2: records that may be, with something in each field.
func TestRecordsThatMayBe(t *testing.T) {
	wantBytes(t, api.Inode{})
	for _, x := range used {
		wantBytes(t, x)
	}
	// Each byte of each field by itself, so that no two can stand in one place.
	for at := range 12 {
		for shift := 0; shift < 32; shift += 8 {
			wantBytes(t, withNumber(api.Inode{Kind: 1}, at, 200<<shift))
		}
	}
	for _, n := range []int{1, 255, 256, 257, 8459264 - 1} {
		wantBytes(t, api.Inode{Kind: 1, Size: n})
	}
	for _, n := range []int{255, 256, 257, 511, 512} {
		wantBytes(t, api.Inode{Kind: 1, Links: n})
		wantBytes(t, api.Inode{Kind: 2, Links: n})
	}
}

// P11.1: each Kind, with fields that those of another Kind may have.
func TestKinds(t *testing.T) {
	may := map[int]bool{1: true, 2: true, 3: true}
	kinds := []int{-1, 0, 1, 2, 3, 4, 5, 127, 128, 255, 256, 257, 258, 259, 65537, 1 << 32, 1<<32 + 1, -255, -256, math.MinInt, math.MinInt + 1, math.MaxInt}
	for _, kind := range kinds {
		if may[kind] {
			wantBytes(t, api.Inode{Kind: kind, Links: 2, Size: 512})
		} else {
			wantNoBytes(t, api.Inode{Kind: kind, Links: 2, Size: 512})
		}
		if kind > 3 || kind < 0 {
			wantNoBytes(t, api.Inode{Kind: kind})
		}
	}
}

// P11.1: of each Kind Links and Size about each of their bounds, and far off.
func TestBounds(t *testing.T) {
	far := []int{math.MinInt, math.MinInt + 1, -65536, -1 << 32, 1 << 32, 1<<32 + 512, 1<<32 + 2, math.MaxInt - 511, math.MaxInt - 1, math.MaxInt}
	for _, c := range []struct {
		good                 api.Inode
		links, noLinks       []int
		sizes, noSizes       []int
		wrongLinks, wrongLen int
	}{
		{api.Inode{Kind: 1, Links: 3, Size: 7}, []int{0, 1, 2, 999, 1000}, []int{-2, -1, 1001, 1002, 65535, 65536, 65537}, []int{0, 1, 511, 512, 513, 8459263, 8459264}, []int{-512, -1, 8459265, 8459776}, 1001, -1},
		{api.Inode{Kind: 2, Links: 3, Size: 512}, []int{2, 3, 1000, 1001, 65534, 65535}, []int{-1, 0, 1, 65536, 65537, 65538}, []int{0, 512, 1024, 8458752, 8459264}, []int{-512, -1, 1, 2, 256, 511, 513, 1023, 1025, 8459263, 8459265, 8459776}, 1, 511},
		{api.Inode{Kind: 3, Links: 3, Size: 7}, []int{1, 2, 999, 1000}, []int{-1, 0, 1001, 1002, 65535, 65536, 65537}, []int{1, 2, 511, 512, 513, 1023, 1024}, []int{-1, 0, 1025, 1026, 1536, 8459264}, 0, 0},
	} {
		for _, n := range c.links {
			x := c.good
			x.Links = n
			wantBytes(t, x)
		}
		for _, n := range append(c.noLinks, far...) {
			x := c.good
			x.Links = n
			wantNoBytes(t, x)
		}
		for _, n := range c.sizes {
			x := c.good
			x.Size = n
			wantBytes(t, x)
		}
		for _, n := range append(c.noSizes, far...) {
			x := c.good
			x.Size = n
			wantNoBytes(t, x)
		}
		x := c.good
		x.Links, x.Size = c.wrongLinks, c.wrongLen
		wantNoBytes(t, x)
	}
}

// P11.1: each block number about its bounds, whatever else the record holds; whether there is such a block isn't asked.
func TestNumbers(t *testing.T) {
	for at := range 12 {
		for _, x := range append([]api.Inode{{Kind: 1}, {Kind: 2, Links: 2}, {Kind: 3, Links: 1, Size: 1}}, used...) {
			for _, n := range []int{0, 1, 97, 98, 16383, 16384, 1<<31 - 1, 1 << 31, most - 1, most} {
				wantBytes(t, withNumber(x, at, n))
			}
			for _, n := range []int{math.MinInt, -1 << 32, -2, -1, most + 1, most + 2, 1 << 33, 1 << 63 >> 1, math.MaxInt} {
				wantNoBytes(t, withNumber(x, at, n))
			}
		}
	}
}

// P11.1: a free record has nothing but zeros.
func TestFreeHasNothing(t *testing.T) {
	for _, n := range []int{math.MinInt, -1, 1, 2, 512, most, most + 1, math.MaxInt} {
		wantNoBytes(t, api.Inode{Links: n})
		wantNoBytes(t, api.Inode{Size: n})
		for at := range 12 {
			wantNoBytes(t, withNumber(api.Inode{}, at, n))
		}
	}
	for _, x := range used {
		x.Kind = 0
		wantNoBytes(t, x)
	}
}

// P11.2: any other length, of zeros and of a record with something more or less.
func TestLengths(t *testing.T) {
	for _, x := range append([]api.Inode{{}}, used...) {
		b := append(plainBytes(x), make([]byte, 1024)...)
		for _, n := range []int{0, 1, 2, 8, 32, 56, 62, 63, 65, 66, 72, 128, 512, 1088} {
			wantNoRecord(t, b[:n], api.ErrSize)
		}
		wantRecord(t, b[:64], x)
		wantRecord(t, b[:64:64], x)
	}
	wantNoRecord(t, nil, api.ErrSize)
	wantNoRecord(t, bytes.Repeat([]byte{9}, 63), api.ErrSize)
	wantNoRecord(t, bytes.Repeat([]byte{9}, 65), api.ErrSize)
}

// plainRecord is what 64 bytes are by the chapter's words.
func plainRecord(b []byte) (api.Inode, bool) {
	x := api.Inode{Kind: int(b[0]), Links: int(binary.LittleEndian.Uint16(b[2:])), Size: int(binary.LittleEndian.Uint32(b[4:]))}
	for at := range 12 {
		x = withNumber(x, at, int(binary.LittleEndian.Uint32(b[8+4*at:])))
	}
	ok := false
	switch x.Kind {
	case 0:
		ok = bytes.Equal(b, make([]byte, 64))
	case 1:
		ok = x.Links <= 1000 && x.Size <= 16522*512
	case 2:
		ok = x.Links >= 2 && x.Size <= 16522*512 && x.Size%512 == 0
	case 3:
		ok = x.Links >= 1 && x.Links <= 1000 && x.Size >= 1 && x.Size <= 1024
	}
	ok = ok && b[1] == 0 && bytes.Equal(b[56:], make([]byte, 8))
	return x, ok
}

func holdDecode(t *testing.T, b []byte) bool {
	t.Helper()
	x, ok := plainRecord(b)
	if ok {
		wantRecord(t, b, x)
	} else {
		wantNoRecord(t, b, api.ErrRecord)
	}
	return ok
}

// P11.2: each byte of a record changed into each other one.
func TestEachByteChanged(t *testing.T) {
	least := []api.Inode{{}, {Kind: 1}, {Kind: 2, Links: 2}, {Kind: 3, Links: 1, Size: 1}}
	for _, x := range append(least, used...) {
		for at := range 64 {
			for c := range 256 {
				b := plainBytes(x)
				b[at] = byte(c)
				holdDecode(t, b)
			}
		}
	}
}

// P11.2: each of the bytes that are zero in all records.
func TestZeroBytes(t *testing.T) {
	for _, x := range append([]api.Inode{{}}, used...) {
		for _, at := range []int{1, 56, 57, 58, 59, 60, 61, 62, 63} {
			for _, c := range []byte{1, 128, 255} {
				b := plainBytes(x)
				b[at] = c
				wantNoRecord(t, b, api.ErrRecord)
			}
		}
	}
}

// P11.2: of a free one each byte that isn't zero.
func TestFreeBytes(t *testing.T) {
	wantRecord(t, make([]byte, 64), api.Inode{})
	for at := 1; at < 64; at++ {
		for bit := range 8 {
			b := make([]byte, 64)
			b[at] = 1 << bit
			wantNoRecord(t, b, api.ErrRecord)
		}
	}
}

// P11.2: bytes of any kind, most of them near to a record.
func TestAnyBytes(t *testing.T) {
	r := rand.New(rand.NewSource(11))
	count := 0
	for range 100000 {
		b := make([]byte, 64)
		r.Read(b[8:56])
		b[0] = byte(r.Intn(5))
		binary.LittleEndian.PutUint16(b[2:], []uint16{0, 1, 2, 3, 999, 1000, 1001, uint16(r.Intn(65536))}[r.Intn(8)])
		sizes := []uint32{0, 1, 512, 1023, 1024, 1025, 8459263, 8459264, 8459265, 8459776, uint32(r.Intn(16600) * 512), r.Uint32()}
		binary.LittleEndian.PutUint32(b[4:], sizes[r.Intn(len(sizes))])
		if r.Intn(10) == 0 {
			b[r.Intn(64)] = byte(r.Intn(256))
		}
		if holdDecode(t, b) {
			count++
		}
	}
	if count < 20000 || count > 80000 {
		t.Errorf("%d of 100000 were records", count)
	}
}

// P11.7: what is handed in stays, with the room behind it; what is answered is new memory, its spare room too.
func TestRecordsMemory(t *testing.T) {
	for _, x := range append([]api.Inode{{}}, used...) {
		room := append(plainBytes(x), 1, 2, 3)
		was := slices.Clone(room)
		y, _ := inode.Decode(room[:64])
		z, _ := inode.Decode(room[:63])
		if !bytes.Equal(room, was) || z != (api.Inode{}) {
			t.Error("P11.7: Decode has changed what it was handed")
		}
		clear(room)
		if y != x {
			t.Error("P11.7: Decode has kept what it was handed")
		}
		one, _ := inode.Encode(x)
		two, _ := inode.Encode(x)
		one = one[:cap(one)]
		for i := range one {
			one[i] = 99
		}
		again, _ := inode.Encode(x)
		if !bytes.Equal(two, plainBytes(x)) || !bytes.Equal(again, plainBytes(x)) {
			t.Error("P11.7: two answers of Encode share memory")
		}
	}
}
