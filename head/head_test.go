package head_test

import (
	"bytes"
	"encoding/binary"
	"hash/crc32"
	"math"
	"math/rand"
	"slices"
	"testing"

	"bole/api"
	"bole/head"
)

const (
	size  = api.BlockSize
	least = math.MinInt
	most  = math.MaxInt
)

func full(c byte) []byte { return bytes.Repeat([]byte{c}, size) }

// blocks are k of them, no two alike.
func blocks(k int) [][]byte {
	data := make([][]byte, k)
	for i := range data {
		data[i] = full(byte(i + 1))
	}
	return data
}

// steps are k numbers from a first one on, each so much above the one before.
func steps(k, first, by int) []int {
	nums := make([]int, k)
	for i := range nums {
		nums[i] = first + i*by
	}
	return nums
}

// plainMay says the chapter's words of numbers that may be.
func plainMay(nums []int, n int) bool {
	if len(nums) < 1 || len(nums) > 96 {
		return false
	}
	for i, num := range nums {
		if num < 98 || num >= n || i > 0 && num <= nums[i-1] {
			return false
		}
	}
	return true
}

func plainBlocks(data [][]byte, k int) bool {
	if len(data) != k {
		return false
	}
	for _, b := range data {
		if len(b) != 512 {
			return false
		}
	}
	return true
}

// plainSum is the sum of a header, by the library's CRC-32.
func plainSum(h []byte, data [][]byte) uint32 {
	b := slices.Concat(h[:12], []byte{0, 0, 0, 0}, h[16:])
	return crc32.ChecksumIEEE(append(b, bytes.Join(data, nil)...))
}

func seal(h []byte, data [][]byte) []byte {
	binary.LittleEndian.PutUint32(h[12:], plainSum(h, data))
	return h
}

// plainForm is a header's bytes of any numbers, without asking whether they may be.
func plainForm(nums []int, data [][]byte) []byte {
	h := make([]byte, 512)
	copy(h, "BOLELOG1")
	binary.LittleEndian.PutUint16(h[8:], uint16(len(nums)))
	for i, num := range nums {
		if 20+4*i <= len(h) {
			binary.LittleEndian.PutUint32(h[16+4*i:], uint32(num))
		}
	}
	return seal(h, data)
}

func plainMake(nums []int, data [][]byte) ([]byte, api.Errno) {
	if !plainMay(nums, 16384) {
		return nil, api.ErrNums
	}
	if !plainBlocks(data, len(nums)) {
		return nil, api.ErrSize
	}
	return plainForm(nums, data), api.OK
}

func plainNums(h []byte, n int) ([]int, api.Errno) {
	if len(h) != 512 {
		return nil, api.ErrSize
	}
	if bytes.Equal(h, make([]byte, 512)) {
		return nil, api.OK
	}
	count := int(h[8]) | int(h[9])<<8
	if string(h[:8]) != "BOLELOG1" || h[10] != 0 || h[11] != 0 || count > 96 {
		return nil, api.ErrHead
	}
	var nums []int
	for at := 16; at < 16+4*count; at += 4 {
		nums = append(nums, int(h[at])|int(h[at+1])<<8|int(h[at+2])<<16|int(h[at+3])<<24)
	}
	if !plainMay(nums, n) || len(bytes.Trim(h[16+4*count:], "\x00")) != 0 {
		return nil, api.ErrHead
	}
	return nums, api.OK
}

func plainGood(h []byte, n int, data [][]byte) bool {
	nums, _ := plainNums(h, n)
	return len(nums) > 0 && plainBlocks(data, len(nums)) && binary.LittleEndian.Uint32(h[12:]) == plainSum(h, data)
}

func made(t *testing.T, nums []int, data [][]byte) []byte {
	t.Helper()
	h, e := head.Make(nums, data)
	if e != api.OK || len(h) != size {
		t.Fatalf("Make(%v, ..): %d bytes, %d", nums, len(h), e)
	}
	return h
}

func wantMake(t *testing.T, what string, nums []int, data [][]byte, want api.Errno) {
	t.Helper()
	h, e := head.Make(nums, data)
	if e != want || e != api.OK && len(h) != 0 {
		t.Errorf("%s: %d bytes, %d, want %d", what, len(h), e, want)
	}
	if plain, _ := plainMake(nums, data); e == api.OK && !bytes.Equal(h, plain) {
		t.Errorf("%s: %x, want %x", what, h, plain)
	}
}

func wantNums(t *testing.T, what string, h []byte, n int, nums []int, want api.Errno) {
	t.Helper()
	if l, e := head.Nums(h, n); !slices.Equal(l, nums) || e != want {
		t.Errorf("%s: Nums on %d blocks: %v, %d, want %v, %d", what, n, l, e, nums, want)
	}
}

func wantGood(t *testing.T, what string, h []byte, n int, data [][]byte, want bool) {
	t.Helper()
	if head.Good(h, n, data) != want {
		t.Errorf("%s: Good on %d blocks: %v, want %v", what, n, !want, want)
	}
}

// P4.1: the header of example 1, byte by byte.
func TestMakeExample(t *testing.T) {
	data := [][]byte{full(0)}
	h := made(t, []int{98}, data)
	want := append([]byte("BOLELOG1\x01\x00\x00\x00\x00\x00\x00\x00\x62\x00\x00\x00"), make([]byte, 492)...)
	if !bytes.Equal(h, seal(want, data)) {
		t.Errorf("P4.1: %x, want %x", h[:24], want[:24])
	}
}

// P4.1: every number and every block has its place.
func TestMakeForm(t *testing.T) {
	nums, data := []int{98, 258, 16383}, blocks(3)
	h := made(t, nums, data)
	front := "BOLELOG1\x03\x00\x00\x00"
	if string(h[:12]) != front || string(h[16:28]) != "\x62\x00\x00\x00\x02\x01\x00\x00\xff\x3f\x00\x00" || len(bytes.Trim(h[28:], "\x00")) != 0 {
		t.Errorf("P4.1: %x", h)
	}
	if s := binary.LittleEndian.Uint32(h[12:]); s != plainSum(h, data) {
		t.Errorf("P4.1: the sum is %x, want %x", s, plainSum(h, data))
	}
	data[1], data[2] = data[2], data[1]
	if bytes.Equal(made(t, nums, data), h) {
		t.Errorf("P4.1: the blocks' order is not in the sum")
	}
}

// P4.1: what Make refuses, with the order of its errors.
func TestMakeRefuses(t *testing.T) {
	for _, c := range []struct {
		what string
		nums []int
		data [][]byte
		want api.Errno
	}{
		{"no numbers, no data", nil, nil, api.ErrNums},
		{"empty lists", []int{}, [][]byte{}, api.ErrNums},
		{"no numbers, data", nil, blocks(1), api.ErrNums},
		{"97", []int{97}, blocks(1), api.ErrNums},
		{"0", []int{0}, blocks(1), api.ErrNums},
		{"-1", []int{-1}, blocks(1), api.ErrNums},
		{"98 - 2^32", []int{98 - 1<<32}, blocks(1), api.ErrNums},
		{"98 + 2^32", []int{98 + 1<<32}, blocks(1), api.ErrNums},
		{"the least int", []int{least}, blocks(1), api.ErrNums},
		{"the most int", []int{most}, blocks(1), api.ErrNums},
		{"16384", []int{16384}, blocks(1), api.ErrNums},
		{"16385", []int{16385}, blocks(1), api.ErrNums},
		{"two alike", []int{98, 98}, blocks(2), api.ErrNums},
		{"two alike at the end", []int{98, 99, 99}, blocks(3), api.ErrNums},
		{"two alike, one between", []int{98, 99, 98}, blocks(3), api.ErrNums},
		{"falling", []int{99, 98}, blocks(2), api.ErrNums},
		{"falling at the end", []int{100, 200, 199}, blocks(3), api.ErrNums},
		{"falling at the beginning", []int{101, 100, 200}, blocks(3), api.ErrNums},
		{"the last one too low", []int{98, 97}, blocks(2), api.ErrNums},
		{"the last one too high", []int{98, 16384}, blocks(2), api.ErrNums},
		{"one more than LogMax", steps(97, 98, 1), blocks(97), api.ErrNums},
		{"many more than LogMax", steps(8000, 98, 1), blocks(8000), api.ErrNums},
		{"97, no data", []int{97}, nil, api.ErrNums},
		{"97, a short block", []int{97}, [][]byte{make([]byte, 511)}, api.ErrNums},
		{"one more than LogMax, no data", steps(97, 98, 1), nil, api.ErrNums},
		{"no data", []int{98}, nil, api.ErrSize},
		{"an empty list of data", []int{98}, [][]byte{}, api.ErrSize},
		{"fewer data", []int{98, 99}, blocks(1), api.ErrSize},
		{"more data", []int{98}, blocks(2), api.ErrSize},
		{"a nil block", []int{98}, [][]byte{nil}, api.ErrSize},
		{"511 bytes", []int{98}, [][]byte{make([]byte, 511)}, api.ErrSize},
		{"513 bytes", []int{98}, [][]byte{make([]byte, 513)}, api.ErrSize},
		{"1024 bytes for two", []int{98, 99}, [][]byte{make([]byte, 1024)}, api.ErrSize},
		{"the last one short", []int{98, 99}, [][]byte{full(1), make([]byte, 511)}, api.ErrSize},
		{"511 and 513 bytes", []int{98, 99}, [][]byte{make([]byte, 511), make([]byte, 513)}, api.ErrSize},
		{"LogMax, data one short", steps(96, 98, 1), blocks(95), api.ErrSize},
	} {
		wantMake(t, "P4.1: "+c.what, c.nums, c.data, c.want)
	}
}

// P4.1: what Make takes, to the edges.
func TestMakeTakes(t *testing.T) {
	wantMake(t, "P4.1: 98", []int{98}, blocks(1), api.OK)
	wantMake(t, "P4.1: 16383", []int{16383}, blocks(1), api.OK)
	wantMake(t, "P4.1: the first and the last", []int{98, 16383}, blocks(2), api.OK)
	wantMake(t, "P4.1: LogMax, the lowest", steps(96, 98, 1), blocks(96), api.OK)
	wantMake(t, "P4.1: LogMax, the highest", steps(96, 16384-96, 1), blocks(96), api.OK)
	wantMake(t, "P4.1: LogMax, wide apart", steps(96, 98, 171), blocks(96), api.OK)
	wantMake(t, "P4.1: one block for two numbers", []int{98, 99}, [][]byte{full(1), full(1)}, api.OK)
	for k := 1; k <= 96; k++ {
		wantMake(t, "P4.1: as many", steps(k, 98+k, 3), blocks(k), api.OK)
	}
}

// P4.1: Empty is 512 zeros.
func TestEmpty(t *testing.T) {
	if h := head.Empty(); !bytes.Equal(h, make([]byte, 512)) {
		t.Errorf("P4.1: %x", h)
	}
}

// disks are numbers of blocks of all kinds, whether or not a disk has so many.
var disks = []int{least, least + 1, -1 << 32, -5, -1, 0, 1, 97, 98, 99, 128, 16384, 1 << 31, 1 << 32, most - 1, most}

// P4.2: a length that is no header's comes first; the empty header is none, on every disk.
func TestNumsSizeAndEmpty(t *testing.T) {
	h := made(t, []int{98}, blocks(1))
	for _, n := range disks {
		for _, l := range []int{0, 1, 8, 16, 20, 511, 513, 1024} {
			wantNums(t, "P4.2: zeros of a wrong length", make([]byte, l), n, nil, api.ErrSize)
			wantNums(t, "P4.2: ones of a wrong length", bytes.Repeat([]byte{1}, l), n, nil, api.ErrSize)
			wantNums(t, "P4.2: a header of a wrong length", append(slices.Clone(h), make([]byte, 512)...)[:l], n, nil, api.ErrSize)
		}
		wantNums(t, "P4.2: nil", nil, n, nil, api.ErrSize)
		wantNums(t, "P4.2: the empty header", head.Empty(), n, nil, api.OK)
		wantNums(t, "P4.2: ones", full(1), n, nil, api.ErrHead)
	}
}

// P4.2: one byte alone that isn't zero is neither empty nor a header.
func TestNumsNearlyEmpty(t *testing.T) {
	for i := range size {
		h := head.Empty()
		h[i] = 1
		wantNums(t, "P4.2: one byte of zeros made 1", h, 16384, nil, api.ErrHead)
	}
}

// P4.2: the last number must lie on the disk, whatever n is.
func TestNumsOnDisks(t *testing.T) {
	for _, nums := range [][]int{{98}, {98, 127}, {100, 200}, {16383}, steps(96, 98, 1), steps(96, 98, 171)} {
		h := made(t, nums, blocks(len(nums)))
		last := nums[len(nums)-1]
		for _, n := range append([]int{last - 1, last, last + 1, last + 2}, disks...) {
			if n > last {
				wantNums(t, "P4.2", h, n, nums, api.OK)
			} else {
				wantNums(t, "P4.2", h, n, nil, api.ErrHead)
			}
			wantGood(t, "P4.3", h, n, blocks(len(nums)), n > last)
		}
	}
}

// P4.2, P4.3: numbers behind MaxDisk may be on a disk that is told to be greater, up to what four bytes hold.
func TestNumsBehindMaxDisk(t *testing.T) {
	nums, data := []int{98, 16384, 1 << 31, 1<<32 - 1}, blocks(4)
	h := plainForm(nums, data)
	for _, n := range []int{1 << 32, 1<<32 + 1, most} {
		wantNums(t, "P4.2", h, n, nums, api.OK)
		wantGood(t, "P4.3", h, n, data, true)
	}
	for _, n := range []int{16384, 1 << 31, 1<<32 - 1, least} {
		wantNums(t, "P4.2", h, n, nil, api.ErrHead)
		wantGood(t, "P4.3", h, n, data, false)
	}
}

// P4.2: numbers that Make would refuse are refused when they are read, though the sum is right.
func TestNumsRefuses(t *testing.T) {
	for what, nums := range map[string][]int{
		"none":                 {},
		"0":                    {0},
		"97":                   {97},
		"two alike":            {98, 98},
		"falling":              {99, 98},
		"the last one falling": {98, 200, 199},
		"the first one low":    {1, 98},
		"16384":                {16384},
		"the highest":          {98, 1<<32 - 1},
		"one more than LogMax": steps(97, 98, 1),
		"as many as there is":  steps(124, 98, 1),
		"more than there is":   steps(125, 98, 1),
		"255":                  steps(255, 98, 1),
		"256":                  steps(256, 98, 1),
		"257":                  steps(257, 98, 1),
		"32768":                steps(32768, 98, 1),
		"65535":                steps(65535, 98, 1),
	} {
		data := blocks(len(nums))
		h := plainForm(nums, data)
		wantNums(t, "P4.2: "+what, h, 16384, nil, api.ErrHead)
		wantGood(t, "P4.3: "+what, h, 16384, data, false)
	}
}

// P4.2: every count that two bytes hold, over numbers of which as many as may be stand there.
func TestNumsCounts(t *testing.T) {
	for _, k := range []int{0, 1, 2, 50, 95, 96} {
		h := plainForm(steps(k, 98, 1), blocks(k))
		for count := range 1 << 16 {
			binary.LittleEndian.PutUint16(h[8:], uint16(count))
			want, e := plainNums(h, 16384)
			wantNums(t, "P4.2: a count", h, 16384, want, e)
		}
	}
}

// P4.2, P4.3: each byte of the name, of the two zero ones and behind the numbers, turned to every other value: refused, though the sum be right.
func TestNumsBytes(t *testing.T) {
	for _, k := range []int{1, 2, 96} {
		nums, data := steps(k, 98, 2), blocks(k)
		h := made(t, nums, data)
		for at := range size {
			if at >= 8 && at < 10 || at >= 12 && at < 16+4*k {
				continue
			}
			for by := 1; by < 256; by++ {
				h[at] ^= byte(by)
				wantNums(t, "P4.2: a byte turned", h, 16384, nil, api.ErrHead)
				wantGood(t, "P4.3: a byte turned", h, 16384, data, false)
				h[at] ^= byte(by)
			}
			g := slices.Clone(h)
			g[at] ^= 1
			wantGood(t, "P4.3: a byte turned, with a right sum", seal(g, data), 16384, data, false)
		}
	}
}

// P4.2, P4.3: Nums does not look at the sum, Good does.
func TestNumsSum(t *testing.T) {
	nums, data := []int{98, 16383}, blocks(2)
	for at := 12; at < 16; at++ {
		for by := 1; by < 256; by++ {
			h := made(t, nums, data)
			h[at] ^= byte(by)
			wantNums(t, "P4.2: a byte of the sum turned", h, 16384, nums, api.OK)
			wantGood(t, "P4.3: a byte of the sum turned", h, 16384, data, false)
		}
	}
}

// P4.2: each byte of the numbers turned to every other value.
func TestNumsNumbers(t *testing.T) {
	nums, data := []int{98, 300, 301, 16383}, blocks(4)
	for at := 16; at < 32; at++ {
		for by := 1; by < 256; by++ {
			h := made(t, nums, data)
			h[at] ^= byte(by)
			for _, n := range []int{16384, 20000, 1 << 20, most} {
				want, e := plainNums(h, n)
				wantNums(t, "P4.2: a byte of a number turned", h, n, want, e)
				wantGood(t, "P4.3: a byte of a number turned", h, n, data, false)
			}
		}
	}
}

// P4.3: what is no header of these data.
func TestGood(t *testing.T) {
	nums, data := []int{100, 200}, blocks(2)
	h := made(t, nums, data)
	wantGood(t, "P4.3: the header", h, 201, data, true)
	for _, n := range append([]int{200, 100}, disks...) {
		wantGood(t, "P4.3: the header", h, n, data, n > 200)
		wantGood(t, "P4.3: the empty header, no data", head.Empty(), n, nil, false)
		wantGood(t, "P4.3: the empty header, an empty list", head.Empty(), n, [][]byte{}, false)
		wantGood(t, "P4.3: the empty header, a block", head.Empty(), n, blocks(1), false)
		wantGood(t, "P4.3: zeros with a right sum and no numbers", plainForm(nil, nil), n, nil, false)
		wantGood(t, "P4.3: nil", nil, n, nil, false)
		wantGood(t, "P4.3: a header of 511 bytes", h[:511], n, data, false)
		wantGood(t, "P4.3: a header of 513 bytes", append(slices.Clone(h), 0), n, data, false)
	}
	for what, other := range map[string][][]byte{
		"no data":         nil,
		"one block":       data[:1],
		"the other block": data[1:],
		"three blocks":    {data[0], data[1], full(0)},
		"exchanged":       {data[1], data[0]},
		"511 bytes":       {data[0], data[1][:511]},
		"513 bytes":       {data[0], append(slices.Clone(data[1]), 0)},
		"a nil block":     {data[0], nil},
		"cut elsewhere":   {append(slices.Clone(data[0]), data[1][0]), data[1][1:]},
		"one long block":  {bytes.Join(data, nil)},
		"all in one":      {bytes.Join(data, nil), nil},
		"other bytes":     blocks(3)[1:],
	} {
		wantGood(t, "P4.3: "+what, h, 16384, other, false)
	}
}

// P4.3: a sum over data of which one is no block is not right, though it is the sum of all the bytes.
func TestGoodSumOfNoBlocks(t *testing.T) {
	for _, data := range [][][]byte{{make([]byte, 511)}, {make([]byte, 513)}, {nil}, {}, {full(1), full(2)}, {make([]byte, 256), make([]byte, 256)}} {
		wantGood(t, "P4.3: data that are no block", plainForm([]int{98}, data), 16384, data, false)
	}
}

// P4.4: from numbers to a header and back, and from a good header to numbers and back.
func TestOneForm(t *testing.T) {
	r := rand.New(rand.NewSource(4))
	for range 400 {
		n := 128 + r.Intn(16384-128+1)
		nums, data := anyNums(r, n), [][]byte(nil)
		for range nums {
			data = append(data, anyBytes(r, size))
		}
		h := made(t, nums, data)
		wantGood(t, "P4.4", h, n, data, true)
		wantNums(t, "P4.4", h, n, nums, api.OK)
		plain := plainForm(nums, data)
		read, _ := head.Nums(plain, n)
		if again := made(t, read, data); !head.Good(plain, n, data) || !bytes.Equal(again, plain) {
			t.Errorf("P4.4: %x is good: %v; it is made as %x", plain, head.Good(plain, n, data), again)
		}
	}
}

// anyNums are numbers that may be on a disk of n blocks.
func anyNums(r *rand.Rand, n int) []int {
	all := r.Perm(n - 98)
	nums := all[:1+r.Intn(min(96, len(all)))]
	for i := range nums {
		nums[i] += 98
	}
	slices.Sort(nums)
	return nums
}

func anyBytes(r *rand.Rand, n int) []byte {
	b := make([]byte, n)
	r.Read(b)
	return b
}

// bursts are the lengths and forms of up to 32 bits: their first and last bit are set.
func bursts(r *rand.Rand) []uint32 {
	var forms []uint32
	for n := 1; n <= 32; n++ {
		ends := uint32(1)<<(n-1) | 1
		forms = append(forms, ends, uint32(1)<<n-1, ends|r.Uint32()&(uint32(1)<<(n-1)-1))
	}
	return forms
}

// turn turns the bits of a burst from bit at on; false, and nothing turned, if it does not lie wholly ahead of bit end.
func turn(b []byte, at, end int, form uint32) bool {
	last := 31
	for form>>last == 0 {
		last--
	}
	if at+last >= end {
		return false
	}
	for i := range last + 1 {
		b[(at+i)/8] ^= byte(form>>i&1) << ((at + i) % 8)
	}
	return true
}

// P4.5: bursts at every bit of each part of a header, the disk being as great as can be, so that the numbers stay such as may be wherever they rise.
func TestBurstInHeader(t *testing.T) {
	r := rand.New(rand.NewSource(5))
	nums, data := []int{98, 5000, 16383}, blocks(3)
	h := made(t, nums, data)
	g := slices.Clone(h)
	for _, part := range [][2]int{{0, 12}, {12, 16}, {16, 512}} {
		for at := part[0] * 8; at < part[1]*8; at++ {
			for _, form := range bursts(r) {
				if turn(g, at, part[1]*8, form) {
					wantGood(t, "P4.5: a burst in a header", g, most, data, false)
					copy(g, h)
				}
			}
		}
	}
}

// P4.5: the numbers of a full header, and one whose zeros are few.
func TestBurstInFullHeader(t *testing.T) {
	r := rand.New(rand.NewSource(6))
	nums, data := steps(96, 98, 171), blocks(96)
	h := made(t, nums, data)
	g := slices.Clone(h)
	for at := range size * 8 {
		end := 12 * 8
		if at >= end {
			end = 16 * 8
		}
		if at >= end {
			end = size * 8
		}
		form := r.Uint32() | 1
		if turn(g, at, end, form) {
			wantGood(t, "P4.5: a burst in a full header", g, most, data, false)
			copy(g, h)
		}
	}
}

// P4.5: bursts at every bit of each block.
func TestBurstInBlock(t *testing.T) {
	r := rand.New(rand.NewSource(7))
	nums, data := []int{98, 99, 16383}, [][]byte{full(0), full(255), anyBytes(r, size)}
	h := made(t, nums, data)
	for _, b := range data {
		was := slices.Clone(b)
		for at := range size * 8 {
			for i, form := range bursts(r) {
				if i%8 == at%8 && turn(b, at, size*8, form) {
					wantGood(t, "P4.5: a burst in a block", h, 16384, data, false)
					copy(b, was)
				}
			}
		}
		wantGood(t, "P4.5: the bytes put back", h, 16384, data, true)
	}
}

// P4.6: an answer is memory of its own, with the room behind it.
func TestNewMemory(t *testing.T) {
	nums, data := []int{98, 200}, blocks(2)
	h := made(t, nums, data)
	wantApart(t, "Empty", head.Empty(), head.Empty(), full(0))
	wantApart(t, "Make", made(t, nums, data), h, plainForm(nums, data))
	one, _ := head.Nums(h, 16384)
	two, _ := head.Nums(h, 16384)
	for _, l := range [][]int{one, two} {
		if !slices.Equal(l, nums) {
			t.Fatalf("P4.6: %v", l)
		}
		l = l[:cap(l)]
		for i := range l {
			l[i] = -1
		}
	}
	wantNums(t, "P4.6: numbers that were overwritten", plainForm(nums, data), 16384, nums, api.OK)
	none, _ := head.Nums(head.Empty(), 128)
	other, _ := head.Nums(head.Empty(), 128)
	if none, other = append(none, 1), append(other, 2); none[0] != 1 {
		t.Errorf("P4.6: two answers of no number share their room")
	}
}

// wantApart overwrites one answer with all its room, and looks at another one.
func wantApart(t *testing.T, what string, one, two, want []byte) {
	t.Helper()
	one = one[:cap(one)]
	for i := range one {
		one[i] = 0xAA
	}
	if !bytes.Equal(two, want) {
		t.Errorf("P4.6: two answers of %s share memory", what)
	}
}

// P4.6 (W3): what is handed in is neither changed nor kept, nor is the room behind it.
func TestArguments(t *testing.T) {
	wideNums := []int{98, 200, 7, 7}
	wideBytes := bytes.Repeat([]byte{9}, 3*size)
	one, two := wideBytes[:size], wideBytes[size:2*size]
	wideData := [][]byte{one, two, one, one}
	nums, data := wideNums[:2], wideData[:2]
	h := made(t, nums, data)
	wideHead := append(slices.Clone(h), full(9)...)
	read, _ := head.Nums(wideHead[:size], 16384)
	wantGood(t, "P4.6", wideHead[:size], 16384, data, true)
	if !slices.Equal(wideNums, []int{98, 200, 7, 7}) || !bytes.Equal(wideBytes, bytes.Repeat([]byte{9}, 3*size)) || !bytes.Equal(wideHead, slices.Concat(h, full(9))) {
		t.Errorf("P4.6: an argument was changed")
	}
	for i, b := range [][]byte{one, two, one, one} {
		if len(wideData[i]) != size || &wideData[i][0] != &b[0] {
			t.Errorf("P4.6: the list of data was changed at %d", i)
		}
	}
	was := slices.Clone(h)
	clear(wideNums)
	clear(wideBytes)
	clear(wideHead)
	if !bytes.Equal(h, was) || !slices.Equal(read, []int{98, 200}) {
		t.Errorf("P4.6: an argument was kept")
	}
	wantGood(t, "P4.6: what was read is not good with other bytes", h, 16384, data, false)
}

// P4.6: data may share memory with one another and with the header.
func TestSharedArguments(t *testing.T) {
	same := full(3)
	h := made(t, []int{98, 99}, [][]byte{same, same})
	wantGood(t, "P4.6: one block twice", h, 16384, [][]byte{full(3), full(3)}, true)
	wantGood(t, "P4.6: one block twice", h, 16384, [][]byte{same, same}, true)
	wantGood(t, "P4.6: a header as its own block", h, 16384, [][]byte{h, h}, false)
	if !bytes.Equal(h, plainForm([]int{98, 99}, [][]byte{same, same})) {
		t.Errorf("P4.6: the header was changed")
	}
}

// P4.1 to P4.3, P4.6: any calls, held against the chapter's words said plainly.
func TestAnyCalls(t *testing.T) {
	r := rand.New(rand.NewSource(8))
	edges := []int{least, -1, 0, 96, 97, 98, 99, 100, 101, 127, 128, 16382, 16383, 16384, 16385, 1 << 32, most}
	lengths := []int{512, 512, 512, 512, 512, 512, 0, 511, 513}
	for range 60000 {
		var nums []int
		var data [][]byte
		for range r.Intn(4) {
			nums = append(nums, edges[r.Intn(len(edges))])
		}
		if r.Intn(2) == 0 {
			slices.Sort(nums)
		}
		for range max(0, len(nums)+r.Intn(8)/6-r.Intn(8)/6) {
			data = append(data, anyBytes(r, lengths[r.Intn(len(lengths))]))
		}
		h, e := head.Make(nums, data)
		want, err := plainMake(nums, data)
		if e != err || !bytes.Equal(h, want) {
			t.Fatalf("P4.1: Make(%v, %d blocks): %x, %d, want %x, %d", nums, len(data), h, e, want, err)
		}
		if e != api.OK {
			h = plainForm(nums, data)
		}
		n := edges[r.Intn(len(edges))]
		if r.Intn(3) == 0 {
			h[r.Intn(size)] = byte(r.Intn(3))
		}
		if r.Intn(2) == 0 {
			seal(h, data)
		}
		read, e := plainNums(h, n)
		wantNums(t, "P4.2: any", h, n, read, e)
		wantGood(t, "P4.3: any", h, n, data, plainGood(h, n, data))
	}
}
