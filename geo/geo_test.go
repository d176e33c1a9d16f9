package geo_test

import (
	"bytes"
	"encoding/binary"
	"hash/crc32"
	"math"
	"math/rand"
	"slices"
	"testing"

	"bole/api"
	"bole/geo"
)

const (
	least = math.MinInt
	most  = math.MaxInt
)

// noDisks are lengths that no file system has: the edges, the ends of an int, and lengths that are right ones in their lower bytes.
var noDisks = []int{127, 16385, 126, 16386, 64, 1, 0, -1, -127, -128, -129, -4096, -16384, 1<<16 + 128, 1<<31 - 1, 1 << 31, 1<<31 + 128, 1<<32 - 1, 1 << 32, 1<<32 + 128, 1 << 40, most - 1, most, least, least + 1, least + 128}

// plainOf says the chapter's words of the regions, by counting.
func plainOf(n int) (api.Geo, api.Errno) {
	if n < 128 || n > 16384 {
		return api.Geo{}, api.ErrGeo
	}
	bitmap, table := 0, 0
	for 4096*bitmap < n {
		bitmap++
	}
	for 64*(table+1) <= n {
		table++
	}
	return api.Geo{Blocks: n, Bitmap: 98, Inodes: 98 + bitmap, Data: 98 + bitmap + table, Count: 8 * table}, api.OK
}

// plainForm is a super block's bytes of any number, without asking whether a file system has it.
func plainForm(n uint32) []byte {
	b := make([]byte, 512)
	copy(b, "BOLEFS01")
	binary.LittleEndian.PutUint32(b[8:], n)
	return seal(b)
}

// seal puts the right sum, by the library's CRC-32, over what stands ahead of it.
func seal(b []byte) []byte {
	binary.LittleEndian.PutUint32(b[12:], crc32.ChecksumIEEE(b[:12]))
	return b
}

func plainRead(b []byte) (int, api.Errno) {
	if len(b) != 512 {
		return 0, api.ErrSize
	}
	n := binary.LittleEndian.Uint32(b[8:])
	if n < 128 || n > 16384 || !bytes.Equal(b, plainForm(n)) {
		return 0, api.ErrSuper
	}
	return int(n), api.OK
}

func of(t *testing.T, n int) api.Geo {
	t.Helper()
	g, e := geo.Of(n)
	if e != api.OK {
		t.Fatalf("Of(%d): %d", n, e)
	}
	return g
}

func super(t *testing.T, n int) []byte {
	t.Helper()
	b, e := geo.Super(n)
	if e != api.OK || len(b) != 512 {
		t.Fatalf("Super(%d): %d bytes, %d", n, len(b), e)
	}
	return b
}

func wantRead(t *testing.T, what string, b []byte, n int, want api.Errno) {
	t.Helper()
	if m, e := geo.Read(b); m != n || e != want {
		t.Errorf("%s: Read: %d, %d, want %d, %d", what, m, e, n, want)
	}
}

func wantBit(t *testing.T, g api.Geo, i, block, bit int, want api.Errno) {
	t.Helper()
	if b, k, e := geo.Bit(g, i); b != block || k != bit || e != want {
		t.Errorf("Bit of %d on %d blocks: %d, %d, %d, want %d, %d, %d", i, g.Blocks, b, k, e, block, bit, want)
	}
}

func wantRecord(t *testing.T, g api.Geo, n, block, at int, want api.Errno) {
	t.Helper()
	if b, k, e := geo.Record(g, n); b != block || k != at || e != want {
		t.Errorf("Record of %d on %d blocks: %d, %d, %d, want %d, %d, %d", n, g.Blocks, b, k, e, block, at, want)
	}
}

// P7.1: the chapter's example, and lengths about multiples of 64 and of 4096, written out.
func TestOfExamples(t *testing.T) {
	for _, g := range []api.Geo{
		{Blocks: 128, Bitmap: 98, Inodes: 99, Data: 101, Count: 16},
		{Blocks: 129, Bitmap: 98, Inodes: 99, Data: 101, Count: 16},
		{Blocks: 191, Bitmap: 98, Inodes: 99, Data: 101, Count: 16},
		{Blocks: 192, Bitmap: 98, Inodes: 99, Data: 102, Count: 24},
		{Blocks: 193, Bitmap: 98, Inodes: 99, Data: 102, Count: 24},
		{Blocks: 4095, Bitmap: 98, Inodes: 99, Data: 162, Count: 504},
		{Blocks: 4096, Bitmap: 98, Inodes: 99, Data: 163, Count: 512},
		{Blocks: 4097, Bitmap: 98, Inodes: 100, Data: 164, Count: 512},
		{Blocks: 4159, Bitmap: 98, Inodes: 100, Data: 164, Count: 512},
		{Blocks: 4160, Bitmap: 98, Inodes: 100, Data: 165, Count: 520},
		{Blocks: 8191, Bitmap: 98, Inodes: 100, Data: 227, Count: 1016},
		{Blocks: 8192, Bitmap: 98, Inodes: 100, Data: 228, Count: 1024},
		{Blocks: 8193, Bitmap: 98, Inodes: 101, Data: 229, Count: 1024},
		{Blocks: 12288, Bitmap: 98, Inodes: 101, Data: 293, Count: 1536},
		{Blocks: 12289, Bitmap: 98, Inodes: 102, Data: 294, Count: 1536},
		{Blocks: 16383, Bitmap: 98, Inodes: 102, Data: 357, Count: 2040},
		{Blocks: 16384, Bitmap: 98, Inodes: 102, Data: 358, Count: 2048},
	} {
		if got, e := geo.Of(g.Blocks); got != g || e != api.OK {
			t.Errorf("Of(%d): %v, %d, want %v", g.Blocks, got, e, g)
		}
	}
}

// P7.1: every length that a file system has, and as many on both sides of them, against the chapter's words.
func TestOfEvery(t *testing.T) {
	for n := -16384; n <= 2*16384; n++ {
		want, err := plainOf(n)
		if got, e := geo.Of(n); got != want || e != err {
			t.Fatalf("Of(%d): %v, %d, want %v, %d", n, got, e, want, err)
		}
	}
}

// P7.1, P7.2, P7.7: lengths that no file system has, out to the ends of an int, have no regions and no super block.
func TestNoDisks(t *testing.T) {
	for _, n := range noDisks {
		if g, e := geo.Of(n); g != (api.Geo{}) || e != api.ErrGeo {
			t.Errorf("Of(%d): %v, %d", n, g, e)
		}
		if b, e := geo.Super(n); len(b) != 0 || e != api.ErrGeo {
			t.Errorf("Super(%d): %d bytes, %d", n, len(b), e)
		}
	}
}

// P7.2, P7.3: the chapter's example; the sum of the twelve bytes is written out.
func TestSuperExample(t *testing.T) {
	b := super(t, 128)
	front := []byte{0x42, 0x4F, 0x4C, 0x45, 0x46, 0x53, 0x30, 0x31, 0x80, 0, 0, 0, 0xAF, 0xBB, 0x13, 0x7A}
	want := append(front, make([]byte, 496)...)
	if !bytes.Equal(b, want) {
		t.Errorf("Super(128): %x, want %x", b, want)
	}
	wantRead(t, "Super(128)", b, 128, api.OK)
	wantRead(t, "one byte more", append(slices.Clone(b), 0), 0, api.ErrSize)
	wantRead(t, "one byte fewer", b[:511], 0, api.ErrSize)
	last := slices.Clone(b)
	last[511] = 1
	wantRead(t, "its last byte 1", last, 0, api.ErrSuper)
	other := slices.Clone(b)
	other[8] = 0x81
	wantRead(t, "its byte 8 made 81", other, 0, api.ErrSuper)
}

// P7.2, P7.3: every length has its super block, which is read as that length.
func TestSuperEvery(t *testing.T) {
	for n := 0; n <= 16500; n++ {
		b, e := geo.Super(n)
		if n < 128 || n > 16384 {
			if len(b) != 0 || e != api.ErrGeo {
				t.Fatalf("Super(%d): %d bytes, %d", n, len(b), e)
			}
			continue
		}
		if e != api.OK || !bytes.Equal(b, plainForm(uint32(n))) {
			t.Fatalf("Super(%d): %x, %d", n, b, e)
		}
		if m, e := geo.Read(b); m != n || e != api.OK {
			t.Fatalf("Read of Super(%d): %d, %d", n, m, e)
		}
	}
}

// P7.3: bytes of other lengths, good ones of a super block or none, are ErrSize ahead of ErrSuper.
func TestReadSize(t *testing.T) {
	good := super(t, 4097)
	long := slices.Concat(good, good)
	for k := 0; k <= len(long); k++ {
		want, n := api.ErrSize, 0
		if k == 512 {
			want, n = api.OK, 4097
		}
		wantRead(t, "a part of two super blocks", long[:k], n, want)
		want = api.ErrSize
		if k == 512 {
			want = api.ErrSuper
		}
		wantRead(t, "zeros", make([]byte, k), 0, want)
		wantRead(t, "ones", bytes.Repeat([]byte{1}, k), 0, want)
	}
	wantRead(t, "nil", nil, 0, api.ErrSize)
	wantRead(t, "511 bytes with room behind them", good[:511:512], 0, api.ErrSize)
}

// P7.3: no byte of a super block may be another one.
func TestReadTurned(t *testing.T) {
	for _, n := range []int{128, 255, 256, 4097, 16384} {
		b := super(t, n)
		for i, was := range b {
			for v := range 256 {
				b[i] = byte(v)
				want, err := n, api.OK
				if byte(v) != was {
					want, err = 0, api.ErrSuper
				}
				if m, e := geo.Read(b); m != want || e != err {
					t.Fatalf("Super(%d) with byte %d made %d: %d, %d, want %d, %d", n, i, v, m, e, want, err)
				}
			}
			b[i] = was
		}
	}
}

// P7.3: a length that no file system has, under a right sum.
func TestReadNoLength(t *testing.T) {
	for n := range uint32(128) {
		wantRead(t, "a short disk under a right sum", plainForm(n), 0, api.ErrSuper)
	}
	for n := uint32(16385); n < 17000; n++ {
		wantRead(t, "a long disk under a right sum", plainForm(n), 0, api.ErrSuper)
	}
	for k := 15; k < 32; k++ {
		wantRead(t, "a right length and a bit above it", plainForm(1<<k|128), 0, api.ErrSuper)
	}
	wantRead(t, "the longest number", plainForm(math.MaxUint32), 0, api.ErrSuper)
}

// P7.3: each part wrong, the others right for it.
func TestReadParts(t *testing.T) {
	changed := func(n uint32, change func(b []byte)) []byte {
		b := plainForm(n)
		change(b)
		return b
	}
	for _, n := range []uint32{128, 4096, 4097, 16384} {
		for what, b := range map[string][]byte{
			"the log's magic under a right sum": changed(n, func(b []byte) { copy(b, "BOLELOG1"); seal(b) }),
			"a later magic under a right sum":   changed(n, func(b []byte) { b[7]++; seal(b) }),
			"an empty magic under a right sum":  changed(n, func(b []byte) { clear(b[:8]); seal(b) }),
			"a small letter under a right sum":  changed(n, func(b []byte) { b[0] = 'b'; seal(b) }),
			"the length's highest byte first":   changed(n, func(b []byte) { slices.Reverse(b[8:12]); seal(b) }),
			"another length under the sum":      changed(n, func(b []byte) { b[8]++ }),
			"the sum of another length":         changed(n, func(b []byte) { copy(b[12:16], plainForm(n ^ 512)[12:16]) }),
			"no sum":                            changed(n, func(b []byte) { clear(b[12:16]) }),
			"the sum's highest byte first":      changed(n, func(b []byte) { slices.Reverse(b[12:16]) }),
			"the sum turned":                    changed(n, func(b []byte) { binary.LittleEndian.PutUint32(b[12:], ^binary.LittleEndian.Uint32(b[12:])) }),
			"the sum of the magic alone":        changed(n, func(b []byte) { binary.LittleEndian.PutUint32(b[12:], crc32.ChecksumIEEE(b[:8])) }),
			"the sum of sixteen bytes":          changed(n, func(b []byte) { clear(b[12:16]); binary.LittleEndian.PutUint32(b[12:], crc32.ChecksumIEEE(b[:16])) }),
			"the sum of the whole block":        changed(n, func(b []byte) { clear(b[12:16]); binary.LittleEndian.PutUint32(b[12:], crc32.ChecksumIEEE(b)) }),
			"another polynomial's sum": changed(n, func(b []byte) {
				binary.LittleEndian.PutUint32(b[12:], crc32.Checksum(b[:12], crc32.MakeTable(crc32.Castagnoli)))
			}),
			"the byte behind the sum":                 changed(n, func(b []byte) { b[16] = 1 }),
			"the last byte":                           changed(n, func(b []byte) { b[511] = 0x80 }),
			"two bytes behind the sum that even out":  changed(n, func(b []byte) { b[100], b[101] = 1, 255 }),
			"the block moved by a byte":               changed(n, func(b []byte) { copy(b[1:], slices.Clone(b)); b[0] = 0 }),
			"two bytes of the magic that are swapped": changed(n, func(b []byte) { b[0], b[1] = b[1], b[0]; seal(b) }),
		} {
			if bytes.Equal(b, plainForm(n)) {
				t.Errorf("%s, of %d blocks: nothing is wrong with it", what, n)
			}
			wantRead(t, what, b, 0, api.ErrSuper)
		}
	}
	wantRead(t, "zeros", make([]byte, 512), 0, api.ErrSuper)
}

// P7.3: bytes of any kind, against the chapter's words.
func TestReadAny(t *testing.T) {
	r := rand.New(rand.NewSource(7))
	count := map[api.Errno]int{}
	for range 20000 {
		b := plainForm(uint32(r.Intn(17000)))
		switch r.Intn(6) {
		case 0:
			b[r.Intn(512)] ^= byte(r.Intn(256))
		case 1:
			b[r.Intn(16)] ^= 1 << r.Intn(8)
		case 2:
			b[r.Intn(12)] ^= 1 << r.Intn(8)
			seal(b)
		case 3:
			b = append(b, make([]byte, r.Intn(3))...)[:512+r.Intn(2)-1]
		case 4:
			r.Read(b[r.Intn(512):])
		}
		n, err := plainRead(b)
		wantRead(t, "any bytes", b, n, err)
		count[err]++
	}
	for _, e := range []api.Errno{api.OK, api.ErrSize, api.ErrSuper} {
		if count[e] < 20 {
			t.Errorf("%d was told %d times only", e, count[e])
		}
	}
}

// P7.4: the chapter's example, and the edges of other disks.
func TestBit(t *testing.T) {
	g := of(t, 4097)
	wantBit(t, g, 0, 98, 0, api.OK)
	wantBit(t, g, 1, 98, 1, api.OK)
	wantBit(t, g, 97, 98, 97, api.OK)
	wantBit(t, g, 98, 98, 98, api.OK)
	wantBit(t, g, 4095, 98, 4095, api.OK)
	wantBit(t, g, 4096, 99, 0, api.OK)
	wantBit(t, g, 4097, 0, 0, api.ErrBlock)
	g = of(t, 128)
	wantBit(t, g, 127, 98, 127, api.OK)
	wantBit(t, g, 128, 0, 0, api.ErrBlock)
	g = of(t, 4096)
	wantBit(t, g, 4095, 98, 4095, api.OK)
	wantBit(t, g, 4096, 0, 0, api.ErrBlock)
	g = of(t, 16384)
	wantBit(t, g, 8191, 99, 4095, api.OK)
	wantBit(t, g, 8192, 100, 0, api.OK)
	wantBit(t, g, 12288, 101, 0, api.OK)
	wantBit(t, g, 16383, 101, 4095, api.OK)
	wantBit(t, g, 16384, 0, 0, api.ErrBlock)
	for _, n := range []int{128, 4095, 4096, 4097, 16384} {
		g := of(t, n)
		for _, i := range []int{-1, -2, -4096, -n, n, n + 1, n + 4096, 2 * n, 1 << 32, 1<<32 + 5, most - 1, most, least, least + 1} {
			wantBit(t, g, i, 0, 0, api.ErrBlock)
		}
	}
}

// P7.5: the chapter's example, and the edges of other disks.
func TestRecord(t *testing.T) {
	g := of(t, 128)
	wantRecord(t, g, 1, 99, 64, api.OK)
	wantRecord(t, g, 2, 99, 128, api.OK)
	wantRecord(t, g, 7, 99, 448, api.OK)
	wantRecord(t, g, 8, 100, 0, api.OK)
	wantRecord(t, g, 9, 100, 64, api.OK)
	wantRecord(t, g, 15, 100, 448, api.OK)
	wantRecord(t, g, 0, 0, 0, api.ErrInode)
	wantRecord(t, g, 16, 0, 0, api.ErrInode)
	g = of(t, 4097)
	wantRecord(t, g, 1, 100, 64, api.OK)
	wantRecord(t, g, 511, 163, 448, api.OK)
	wantRecord(t, g, 512, 0, 0, api.ErrInode)
	g = of(t, 16384)
	wantRecord(t, g, 1, 102, 64, api.OK)
	wantRecord(t, g, 2047, 357, 448, api.OK)
	wantRecord(t, g, 2048, 0, 0, api.ErrInode)
	for _, blocks := range []int{128, 191, 192, 4097, 16384} {
		g := of(t, blocks)
		for _, n := range []int{0, -1, -7, -8, -g.Count, g.Count, g.Count + 1, g.Count + 8, g.Blocks, g.Blocks - 1, 1 << 32, 1<<32 + 1, most - 1, most, least, least + 1} {
			wantRecord(t, g, n, 0, 0, api.ErrInode)
		}
	}
}

// P7.6: the regions follow one another and leave room, and a larger disk has no less of it.
func TestRegions(t *testing.T) {
	data, count := 27, 16
	for n := 128; n <= 16384; n++ {
		g := of(t, n)
		if g.Blocks != n || g.Bitmap != 98 || g.Inodes <= g.Bitmap || g.Data <= g.Inodes || g.Blocks <= g.Data {
			t.Fatalf("the regions of %d blocks: %v", n, g)
		}
		if n-g.Data < data || g.Count < count {
			t.Fatalf("%d blocks have %d data blocks and the inodes below %d, fewer than a smaller disk or than the least one: %d, %d", n, n-g.Data, g.Count, data, count)
		}
		data, count = n-g.Data, g.Count
	}
	if g := of(t, 128); g.Blocks-g.Data != 27 || g.Count-1 != 15 {
		t.Errorf("the least disk: %v", g)
	}
}

// P7.4, P7.6: on every disk each block has a bit of its own, which lies in the bitmap, at the place that the words say.
func TestBitsApart(t *testing.T) {
	var seen [4 * 4096]int
	for n := 128; n <= 16384; n++ {
		g := of(t, n)
		for i := range n {
			block, bit, e := geo.Bit(g, i)
			if e != api.OK || block < g.Bitmap || block >= g.Inodes || bit < 0 || bit >= 4096 {
				t.Fatalf("Bit of %d on %d blocks: %d, %d, %d", i, n, block, bit, e)
			}
			place := (block-98)*4096 + bit
			if place != i || seen[place] == n {
				t.Fatalf("Bit of %d on %d blocks: %d, %d is another one's", i, n, block, bit)
			}
			seen[place] = n
		}
	}
}

// P7.5, P7.6: on every disk each inode has a record of its own, which lies in the table, at the place that the words say.
func TestRecordsApart(t *testing.T) {
	var seen [256 * 512 / 64]int
	for n := 128; n <= 16384; n++ {
		g := of(t, n)
		for k := 1; k < g.Count; k++ {
			block, at, e := geo.Record(g, k)
			if e != api.OK || block < g.Inodes || block >= g.Data || at < 0 || at > 448 || at%64 != 0 {
				t.Fatalf("Record of %d on %d blocks: %d, %d, %d", k, n, block, at, e)
			}
			place := (block-g.Inodes)*8 + at/64
			if place != k || seen[place] == n {
				t.Fatalf("Record of %d on %d blocks: %d, %d is another one's", k, n, block, at)
			}
			seen[place] = n
		}
	}
}

// P7.2, P7.7: what Super answers is new memory, its spare room too.
func TestSuperMemory(t *testing.T) {
	want := plainForm(4097)
	first := super(t, 4097)
	spoil(first)
	second, third := super(t, 4097), super(t, 4097)
	spoil(first)
	spoil(second)
	if !bytes.Equal(third, want) || !bytes.Equal(super(t, 4097), want) {
		t.Error("what was done to an answer of Super is seen in another one")
	}
	wantRead(t, "behind spoilt answers", third, 4097, api.OK)
}

// spoil fills bytes and the room behind them.
func spoil(b []byte) {
	b = b[:cap(b)]
	for i := range b {
		b[i] = 0xEE
	}
}

// P7.3, P7.7: what is handed to Read is neither changed, nor the room behind it, nor kept.
func TestReadMemory(t *testing.T) {
	good := super(t, 300)
	bad := slices.Clone(good)
	bad[20] = 1
	for _, b := range [][]byte{good, bad, good[:511], make([]byte, 512)} {
		held := append(slices.Clone(b), bytes.Repeat([]byte{0xAB}, 100)...)
		before := slices.Clone(held)
		part := held[:len(b)]
		n, err := plainRead(b)
		wantRead(t, "bytes with room behind them", part, n, err)
		if !bytes.Equal(held, before) {
			t.Errorf("Read has changed what it was handed (%d bytes, told %d)", len(b), err)
		}
		spoil(part)
		wantRead(t, "bytes that were changed behind the call", part, 0, map[bool]api.Errno{true: api.ErrSuper, false: api.ErrSize}[len(b) == 512])
		wantRead(t, "the next call", good, 300, api.OK)
	}
}

// P7.7: calls hang on their arguments alone: told again, in another order, with refused ones between them, they tell the same.
func TestAgain(t *testing.T) {
	r := rand.New(rand.NewSource(77))
	for range 5000 {
		n := 100 + r.Intn(16400)
		want, err := plainOf(n)
		got, e := geo.Of(n)
		if got != want || e != err {
			t.Fatalf("Of(%d): %v, %d, want %v, %d", n, got, e, want, err)
		}
		if err != api.OK {
			continue
		}
		i, k := r.Intn(2*n)-n/2, r.Intn(2*want.Count)-want.Count/2
		if i >= 0 && i < n {
			wantBit(t, got, i, 98+i/4096, i%4096, api.OK)
		} else {
			wantBit(t, got, i, 0, 0, api.ErrBlock)
		}
		if k >= 1 && k < want.Count {
			wantRecord(t, got, k, want.Inodes+k/8, k%8*64, api.OK)
		} else {
			wantRecord(t, got, k, 0, 0, api.ErrInode)
		}
	}
}
