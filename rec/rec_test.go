package rec_test

import (
	"bytes"
	"math"
	"math/big"
	"strings"
	"testing"

	"bole/api"
	"bole/rec"
)

const (
	least = math.MinInt
	most  = math.MaxInt
	guard = 0xA5
)

// eight is the b of the chapter's examples.
func eight() []byte { return []byte{1, 2, 3, 4, 0, 0, 255, 128} }

// guarded is b with bytes ahead of it and room behind it that no call may touch.
func guarded(b []byte) (all, piece []byte) {
	all = bytes.Repeat([]byte{guard}, len(b)+32)
	copy(all[16:], b)
	return all, all[16 : 16+len(b)]
}

// some is n bytes that look like any, always the same for the same seed.
func some(n int, seed uint32) []byte {
	b := make([]byte, n)
	for i := range b {
		seed = seed*1664525 + 1013904223
		b[i] = byte(seed >> 24)
	}
	return b
}

// lies is the chapter's word, by whole numbers that don't wrap.
func lies(b []byte, at, n int) bool {
	end := new(big.Int).Add(big.NewInt(int64(at)), big.NewInt(int64(n)))
	return at >= 0 && end.Cmp(big.NewInt(int64(len(b)))) <= 0
}

func isWidth(n int) bool { return n == 1 || n == 2 || n == 4 || n == 8 }

// fits tells whether v is below 2 to the power of 8n.
func fits(v uint64, n int) bool {
	power := new(big.Int).Lsh(big.NewInt(1), uint(8*n))
	return new(big.Int).SetUint64(v).Cmp(power) < 0
}

func plainGet(b []byte, at, n int) (uint64, api.Errno) {
	if !isWidth(n) {
		return 0, api.ErrInval
	}
	if !lies(b, at, n) {
		return 0, api.ErrRange
	}
	v := uint64(0)
	for i := n - 1; i >= 0; i-- {
		v = v*256 + uint64(b[at+i])
	}
	return v, api.OK
}

// plainPut answers what b is behind the call.
func plainPut(b []byte, at, n int, v uint64) ([]byte, api.Errno) {
	b = bytes.Clone(b)
	if !isWidth(n) || !fits(v, n) {
		return b, api.ErrInval
	}
	if !lies(b, at, n) {
		return b, api.ErrRange
	}
	for i := range n {
		b[at+i] = byte(v % 256)
		v /= 256
	}
	return b, api.OK
}

func plainText(b []byte, at, n int) (string, api.Errno) {
	if n < 0 {
		return "", api.ErrInval
	}
	if !lies(b, at, n) {
		return "", api.ErrRange
	}
	text := strings.TrimRight(string(b[at:at+n]), "\x00")
	if strings.Contains(text, "\x00") {
		return "", api.ErrInval
	}
	return text, api.OK
}

func plainPutText(b []byte, at, n int, s string) ([]byte, api.Errno) {
	b = bytes.Clone(b)
	if n < 0 || len(s) > n || strings.Contains(s, "\x00") {
		return b, api.ErrInval
	}
	if !lies(b, at, n) {
		return b, api.ErrRange
	}
	for i := range n {
		b[at+i] = (s + strings.Repeat("\x00", n))[i]
	}
	return b, api.OK
}

func plainZero(b []byte, at, n int) (bool, api.Errno) {
	if n < 0 {
		return false, api.ErrInval
	}
	if !lies(b, at, n) {
		return false, api.ErrRange
	}
	return strings.Trim(string(b[at:at+n]), "\x00") == "", api.OK
}

func wantGet(t *testing.T, b []byte, at, n int, want uint64, err api.Errno) {
	t.Helper()
	all, piece := guarded(b)
	was := bytes.Clone(all)
	if v, e := rec.Get(piece, at, n); v != want || e != err {
		t.Errorf("Get(% X, %d, %d) = %#x, %v, want %#x, %v", b, at, n, v, e, want, err)
	}
	if !bytes.Equal(all, was) {
		t.Errorf("P2.6: Get(% X, %d, %d) has changed bytes", b, at, n)
	}
}

func wantPut(t *testing.T, b []byte, at, n int, v uint64, want []byte, err api.Errno) {
	t.Helper()
	all, piece := guarded(b)
	wantAll, _ := guarded(want)
	e := rec.Put(piece, at, n, v)
	if e != err || !bytes.Equal(all, wantAll) {
		t.Errorf("Put(% X, %d, %d, %#x): %v, % X, want %v, % X", b, at, n, v, e, all, err, wantAll)
	}
}

func wantText(t *testing.T, b []byte, at, n int, want string, err api.Errno) {
	t.Helper()
	all, piece := guarded(b)
	was := bytes.Clone(all)
	if s, e := rec.Text(piece, at, n); s != want || e != err {
		t.Errorf("Text(% X, %d, %d) = %q, %v, want %q, %v", b, at, n, s, e, want, err)
	}
	if !bytes.Equal(all, was) {
		t.Errorf("P2.6: Text(% X, %d, %d) has changed bytes", b, at, n)
	}
}

func wantPutText(t *testing.T, b []byte, at, n int, s string, want []byte, err api.Errno) {
	t.Helper()
	all, piece := guarded(b)
	wantAll, _ := guarded(want)
	e := rec.PutText(piece, at, n, s)
	if e != err || !bytes.Equal(all, wantAll) {
		t.Errorf("PutText(% X, %d, %d, %q): %v, % X, want %v, % X", b, at, n, s, e, all, err, wantAll)
	}
}

func wantZero(t *testing.T, b []byte, at, n int, want bool, err api.Errno) {
	t.Helper()
	all, piece := guarded(b)
	was := bytes.Clone(all)
	if z, e := rec.Zero(piece, at, n); z != want || e != err {
		t.Errorf("Zero(% X, %d, %d) = %v, %v, want %v, %v", b, at, n, z, e, want, err)
	}
	if !bytes.Equal(all, was) {
		t.Errorf("P2.6: Zero(% X, %d, %d) has changed bytes", b, at, n)
	}
}

// P2.1, the chapter's first row of examples.
func TestGetExamples(t *testing.T) {
	b := eight()
	wantGet(t, b, 0, 2, 0x0201, api.OK)
	wantGet(t, b, 0, 4, 0x04030201, api.OK)
	wantGet(t, b, 0, 8, 0x80FF000004030201, api.OK)
	wantGet(t, b, 7, 1, 128, api.OK)
	wantGet(t, b, 7, 2, 0, api.ErrRange)
	wantGet(t, b, -1, 1, 0, api.ErrRange)
	wantGet(t, b, 9, 1, 0, api.ErrRange)
	wantGet(t, b, most, 8, 0, api.ErrRange)
	wantGet(t, b, 0, 3, 0, api.ErrInval)
	wantGet(t, b, 99, 0, 0, api.ErrInval)
}

// P2.1: each width up to the very end and one byte further, and a place at the end itself, where not even one byte lies.
func TestGetAtTheEnd(t *testing.T) {
	b := some(512, 1)
	for _, n := range []int{1, 2, 4, 8} {
		want, _ := plainGet(b, 512-n, n)
		wantGet(t, b, 512-n, n, want, api.OK)
		for at := 512 - n + 1; at <= 513; at++ {
			wantGet(t, b, at, n, 0, api.ErrRange)
		}
		wantGet(t, b[:n-1], 0, n, 0, api.ErrRange)
		wantGet(t, nil, 0, n, 0, api.ErrRange)
		wantGet(t, []byte{}, 0, n, 0, api.ErrRange)
	}
}

// P2.1: what is no width is told ahead of what doesn't lie in b.
func TestGetNoWidth(t *testing.T) {
	for _, n := range []int{least, -8, -4, -2, -1, 0, 3, 5, 6, 7, 9, 10, 12, 16, 32, 64, 256, 257, 1 << 32, 1<<32 + 1, most} {
		for _, at := range []int{least, -1, 0, 1, 8, 9, most} {
			wantGet(t, eight(), at, n, 0, api.ErrInval)
			wantGet(t, nil, at, n, 0, api.ErrInval)
		}
	}
}

// P2.2, the chapter's second row of examples.
func TestPutExamples(t *testing.T) {
	b := eight()
	wantPut(t, b, 1, 2, 0xABCD, []byte{1, 0xCD, 0xAB, 4, 0, 0, 255, 128}, api.OK)
	wantPut(t, b, 1, 1, 256, b, api.ErrInval)
	wantPut(t, b, 99, 1, 256, b, api.ErrInval)
	wantPut(t, b, 8, 1, 255, b, api.ErrRange)
	wantPut(t, b, 0, 8, math.MaxUint64, bytes.Repeat([]byte{255}, 8), api.OK)
}

// P2.2: the greatest number of each width goes in, and the next one doesn't, at a place where it lies and at one where it doesn't.
func TestPutWidths(t *testing.T) {
	for _, n := range []int{1, 2, 4} {
		over := uint64(1) << (8 * n)
		want, _ := plainPut(eight(), 8-n, n, over-1)
		wantPut(t, eight(), 8-n, n, over-1, want, api.OK)
		wantPut(t, eight(), 8-n+1, n, over-1, eight(), api.ErrRange)
		for _, v := range []uint64{over, over + 1, over << 1, 1 << 63, math.MaxUint64} {
			wantPut(t, eight(), 0, n, v, eight(), api.ErrInval)
			wantPut(t, eight(), 99, n, v, eight(), api.ErrInval)
			wantPut(t, eight(), -1, n, v, eight(), api.ErrInval)
		}
	}
	for _, v := range []uint64{0, 1, 1 << 56, 1 << 63, math.MaxUint64} {
		want, _ := plainPut(eight(), 0, 8, v)
		wantPut(t, eight(), 0, 8, v, want, api.OK)
		wantPut(t, eight(), 1, 8, v, eight(), api.ErrRange)
	}
	for _, n := range []int{least, -1, 0, 3, 5, 6, 7, 9, 16, 1<<32 + 1, most} {
		for _, at := range []int{least, -1, 0, 8, 99, most} {
			wantPut(t, eight(), at, n, 0, eight(), api.ErrInval)
			wantPut(t, eight(), at, n, math.MaxUint64, eight(), api.ErrInval)
		}
	}
}

// P2.1, P2.2: what is put is got again, and beside it all is as it was.
func TestPutThenGet(t *testing.T) {
	for _, n := range []int{1, 2, 4, 8} {
		for at := range 512 - n + 1 {
			b := some(512, uint32(at))
			v, _ := plainGet(some(8, uint32(at+n)), 0, n)
			want, _ := plainPut(b, at, n, v)
			wantPut(t, b, at, n, v, want, api.OK)
			wantGet(t, want, at, n, v, api.OK)
		}
	}
}

// P2.3, the chapter's third row of examples.
func TestTextExamples(t *testing.T) {
	b := eight()
	wantText(t, b, 0, 6, "\x01\x02\x03\x04", api.OK)
	wantText(t, b, 0, 4, "\x01\x02\x03\x04", api.OK)
	wantText(t, b, 4, 2, "", api.OK)
	wantText(t, b, 3, 5, "", api.ErrInval)
	wantText(t, b, 8, 0, "", api.OK)
	wantText(t, b, 9, 0, "", api.ErrRange)
	wantText(t, b, 9, -1, "", api.ErrInval)
}

// P2.3: bytes that are no letters are told as they are.
func TestTextAnyBytes(t *testing.T) {
	all := make([]byte, 255)
	for i := range all {
		all[i] = byte(i + 1)
	}
	wantText(t, all, 0, 255, string(all), api.OK)
	wantText(t, append(bytes.Clone(all), 0, 0), 0, 257, string(all), api.OK)
}

// P2.3: a zero byte ahead of another one is refused wherever the two stand, and only if both are among the n.
func TestTextZeroAhead(t *testing.T) {
	for zero := range 8 {
		for other := zero + 1; other < 8; other++ {
			b := []byte("abcdefgh")
			clear(b[zero:])
			b[other] = 1
			wantText(t, b, 0, 8, "", api.ErrInval)
			wantText(t, b, 0, other, "abcdefgh"[:zero], api.OK)
			wantText(t, b, 0, 9, "", api.ErrRange)
		}
	}
	wantText(t, []byte("ab\x00c"), 0, 4, "", api.ErrInval)
	wantText(t, []byte("\x00c"), 1, 1, "c", api.OK)
}

// P2.4, the chapter's fourth row of examples.
func TestPutTextExamples(t *testing.T) {
	b := eight()
	wantPutText(t, b, 2, 4, "ab", []byte{1, 2, 'a', 'b', 0, 0, 255, 128}, api.OK)
	wantPutText(t, b, 2, 1, "ab", b, api.ErrInval)
	wantPutText(t, b, 2, 4, "a\x00", b, api.ErrInval)
	wantPutText(t, b, 8, 0, "", b, api.OK)
	wantPutText(t, b, 6, 3, "ab", b, api.ErrRange)
}

// P2.4: a text that just fits, one byte more, no text at all, and zeros laid over what stood there.
func TestPutTextLengths(t *testing.T) {
	full := bytes.Repeat([]byte{255}, 8)
	for n := range 9 {
		for k := range n + 1 {
			want := bytes.Clone(full)
			clear(want[8-n:])
			copy(want[8-n:], "abcdefgh"[:k])
			wantPutText(t, full, 8-n, n, "abcdefgh"[:k], want, api.OK)
			wantText(t, want, 8-n, n, "abcdefgh"[:k], api.OK)
			wantPutText(t, full, 8-n+1, n, "abcdefgh"[:k], full, api.ErrRange)
		}
		wantPutText(t, full, 0, n, "abcdefghi"[:n+1], full, api.ErrInval)
		wantPutText(t, full, 99, n, "abcdefghi"[:n+1], full, api.ErrInval)
	}
}

// P2.4: no text (by its length, by a zero byte) and an n below 0 are told ahead of what doesn't lie in b.
func TestPutTextNoText(t *testing.T) {
	for _, at := range []int{least, -1, 0, 8, 9, most} {
		for _, s := range []string{"\x00", "a\x00", "\x00a", "a\x00b", "abc\x00"} {
			wantPutText(t, eight(), at, 4, s, eight(), api.ErrInval)
			wantPutText(t, eight(), at, most, s, eight(), api.ErrInval)
		}
		for _, n := range []int{-1, -2, least} {
			wantPutText(t, eight(), at, n, "", eight(), api.ErrInval)
			wantPutText(t, eight(), at, n, "a", eight(), api.ErrInval)
		}
		wantPutText(t, eight(), at, 0, "a", eight(), api.ErrInval)
	}
	wantPutText(t, nil, 0, 0, "", nil, api.OK)
	wantPutText(t, nil, 0, 1, "", nil, api.ErrRange)
}

// P2.5, the chapter's fifth row of examples.
func TestZeroExamples(t *testing.T) {
	b := eight()
	wantZero(t, b, 4, 2, true, api.OK)
	wantZero(t, b, 3, 2, false, api.OK)
	wantZero(t, b, 5, 0, true, api.OK)
	wantZero(t, b, 5, 4, false, api.ErrRange)
}

// P2.5: one byte that isn't zero is found wherever it stands, and not beside the n.
func TestZeroOneByte(t *testing.T) {
	for i := range 64 {
		b := make([]byte, 64)
		b[i] = 1 << (i % 8)
		wantZero(t, b, 0, 64, false, api.OK)
		wantZero(t, b, i, 1, false, api.OK)
		wantZero(t, b, 0, i, true, api.OK)
		wantZero(t, b, i+1, 63-i, true, api.OK)
	}
	wantZero(t, nil, 0, 0, true, api.OK)
	wantZero(t, nil, 0, 1, false, api.ErrRange)
	wantZero(t, nil, -1, 0, false, api.ErrRange)
	wantZero(t, nil, 1, 0, false, api.ErrRange)
	wantZero(t, nil, 1, -1, false, api.ErrInval)
}

// P2.1 to P2.6: all calls at all places, lengths and sums about the edges of b and of an int, held against the chapter's words said plainly.
func TestAllEdges(t *testing.T) {
	places := []int{least, least + 1, -8, -1, 0, 1, 2, 3, 4, 5, 6, 7, 8, 9, 99, 1 << 31, 1<<32 - 1, 1 << 32, most - 8, most - 7, most - 1, most}
	numbers := []uint64{0, 1, 255, 256, 65535, 65536, 1<<32 - 1, 1 << 32, 1 << 63, math.MaxUint64}
	texts := []string{"", "a", "ab", "abcd", "abcdefgh", "abcdefghi", "\x00", "a\x00b", "\xff\x80"}
	for _, b := range [][]byte{nil, {0}, {7}, {0, 7}, {7, 0}, {0, 0, 0, 0, 0, 0, 0, 0}, eight(), []byte("abcd\x00\x00\x00\x00")} {
		for _, at := range places {
			for _, n := range places {
				v, err := plainGet(b, at, n)
				wantGet(t, b, at, n, v, err)
				s, err := plainText(b, at, n)
				wantText(t, b, at, n, s, err)
				z, err := plainZero(b, at, n)
				wantZero(t, b, at, n, z, err)
				for _, v := range numbers {
					want, err := plainPut(b, at, n, v)
					wantPut(t, b, at, n, v, want, err)
				}
				for _, s := range texts {
					want, err := plainPutText(b, at, n, s)
					wantPutText(t, b, at, n, s, want, err)
				}
			}
		}
	}
}

// P2.6: bytes of the room behind b are none of b's.
func TestRoomBehind(t *testing.T) {
	all := make([]byte, 16)
	b := all[:4]
	if _, e := rec.Get(b, 4, 1); e != api.ErrRange {
		t.Errorf("Get reads behind b: %v", e)
	}
	if _, e := rec.Text(b, 3, 2); e != api.ErrRange {
		t.Errorf("Text reads behind b: %v", e)
	}
	if _, e := rec.Zero(b, 0, 5); e != api.ErrRange {
		t.Errorf("Zero reads behind b: %v", e)
	}
	if e := rec.Put(b, 1, 4, 1<<32-1); e != api.ErrRange {
		t.Errorf("Put writes behind b: %v", e)
	}
	if e := rec.PutText(b, 0, 5, "abcde"); e != api.ErrRange {
		t.Errorf("PutText writes behind b: %v", e)
	}
	if !bytes.Equal(all, make([]byte, 16)) {
		t.Errorf("refused calls have changed bytes: % X", all)
	}
}

// P2.6: none keeps b, and a text that was answered is not b's bytes.
func TestNothingKept(t *testing.T) {
	b := []byte("abcd")
	s, _ := rec.Text(b, 0, 4)
	v, _ := rec.Get(b, 0, 4)
	copy(b, "wxyz")
	if s != "abcd" || v != 0x64636261 {
		t.Errorf("answers changed with b: %q, %#x", s, v)
	}
	rec.Put(b, 0, 2, 0x4241)
	rec.PutText(b, 2, 2, "C")
	copy(b, "1234")
	if again, e := rec.Text(b, 0, 4); again != "1234" || e != api.OK {
		t.Errorf("Text of the bytes as they are now: %q, %v", again, e)
	}
}
