package sum_test

import (
	"bytes"
	"hash/crc32"
	"math"
	"testing"
	"time"

	"bole/api"
	"bole/sum"
)

const far = 1 << 40

// place moves a word by one place, as the chapter's Words say.
func place(w uint32) uint32 {
	if w&1 == 1 {
		return w>>1 ^ 3988292384
	}
	return w >> 1
}

// plain is the sum as the chapter's Words say it, bit by bit, without a table.
func plain(b []byte) uint32 {
	w := uint32(4294967295)
	for _, c := range b {
		w ^= uint32(c)
		for range 8 {
			w = place(w)
		}
	}
	return ^w
}

// product multiplies two words as polynomials over the field of two, their highest bit being the lowest power: another way to many zero bytes than the program's.
func product(a, b uint32) uint32 {
	var p uint32
	for i := 31; i >= 0; i-- {
		if a>>i&1 == 1 {
			p ^= b
		}
		b = place(b)
	}
	return p
}

// pushed is what n zero bytes do to a word: it is multiplied by x to the power 8n.
func pushed(w uint32, n int) uint32 {
	power := uint32(1 << 31)
	for x := uint32(1 << 23); n > 0; n >>= 1 {
		if n&1 == 1 {
			power = product(power, x)
		}
		x = product(x, x)
	}
	return product(w, power)
}

// some is n bytes that look like any, always the same for the same seed.
func some(n int, seed uint32) []byte {
	b := make([]byte, n)
	for i := range b {
		seed = seed*1664525 + 1013904223
		b[i] = byte(seed >> 24)
	}
	return b
}

func of(s string) uint32 { return plain([]byte(s)) }

func behind(x []byte, more ...byte) []byte { return append(bytes.Clone(x), more...) }

func wantJoin(t *testing.T, a, b uint32, n int, want uint32, err api.Errno) {
	t.Helper()
	if w, e := sum.Join(a, b, n); w != want || e != err {
		t.Errorf("Join(%08X, %08X, %d) = %08X, %v, want %08X, %v", a, b, n, w, e, want, err)
	}
}

func wantTurn(t *testing.T, s uint32, n, at int, was, now []byte, want uint32, err api.Errno) {
	t.Helper()
	if w, e := sum.Turn(s, n, at, was, now); w != want || e != err {
		t.Errorf("Turn(%08X, %d, %d, %.20q, %.20q) = %08X, %v, want %08X, %v", s, n, at, was, now, w, e, want, err)
	}
}

// The test's own second ways must agree with each other and with the library, or they prove nothing.
func TestReferences(t *testing.T) {
	for n := range 200 {
		b := some(n, uint32(n))
		if plain(b) != crc32.ChecksumIEEE(b) {
			t.Fatalf("plain differs from the library's CRC-32 at %d bytes", n)
		}
		zeros := make([]byte, n)
		if pushed(plain(b), n) != plain(behind(b, zeros...))^plain(zeros) {
			t.Fatalf("pushed differs from plain at %d bytes", n)
		}
	}
}

// P1.1: the chapter's examples.
func TestOfExamples(t *testing.T) {
	for _, c := range []struct {
		text string
		want uint32
	}{
		{"", 0},
		{"a", 0xE8B7BE43},
		{"123456789", 0xCBF43926},
		{"\x00", 0xD202EF8D},
		{"\x00\x00\x00\x00", 0x2144DF1C},
		{"\xff\xff\xff\xff", 0xFFFFFFFF},
	} {
		if w := sum.Of([]byte(c.text)); w != c.want {
			t.Errorf("Of(%q) = %08X, want %08X", c.text, w, c.want)
		}
	}
	if w := sum.Of(nil); w != 0 {
		t.Errorf("Of(nil) = %08X, want 0", w)
	}
}

// P1.1: every byte, every length up to some blocks, a long row.
func TestOfIsTheSum(t *testing.T) {
	for c := range 256 {
		if b := []byte{byte(c)}; sum.Of(b) != plain(b) {
			t.Errorf("Of(%v) = %08X, want %08X", b, sum.Of(b), plain(b))
		}
	}
	for n := range 1100 {
		if b := some(n, 7); sum.Of(b) != plain(b) {
			t.Fatalf("Of of %d bytes = %08X, want %08X", n, sum.Of(b), plain(b))
		}
	}
	if b := some(1<<20+3, 8); sum.Of(b) != plain(b) {
		t.Errorf("Of of %d bytes = %08X, want %08X", len(b), sum.Of(b), plain(b))
	}
}

// W3: neither what is handed in nor the room behind it is changed; W5: the same again is answered the same.
func TestNothingHandedInIsChanged(t *testing.T) {
	room := []byte("123456789was now")
	first := sum.Of(room[:9])
	w, _ := sum.Turn(first, 9, 3, room[9:12], room[13:16])
	if string(room) != "123456789was now" {
		t.Errorf("what was handed in is %q now", room)
	}
	again, _ := sum.Turn(first, 9, 3, room[9:12], room[13:16])
	if sum.Of(room[:9]) != first || again != w {
		t.Error("the same arguments are answered otherwise the second time")
	}
}

// P1.2: the chapter's examples, and n at its edges and beyond them.
func TestJoinExamplesAndEdges(t *testing.T) {
	wantJoin(t, of("1234"), of("56789"), 5, 0xCBF43926, api.OK)
	wantJoin(t, 7, 0, 0, 7, api.OK)
	wantJoin(t, 0, 0xD202EF8D, 1, 0xD202EF8D, api.OK)
	wantJoin(t, 0, 0, far, 0, api.OK)
	wantJoin(t, of("x"), of(""), 0, of("x"), api.OK)
	wantJoin(t, of(""), of("x"), 1, of("x"), api.OK)
	for _, n := range []int{-1, -far, math.MinInt, far + 1, 2 * far, math.MaxInt} {
		wantJoin(t, 1, 1, n, 0, api.ErrInval)
	}
}

// P1.2: of any a and b, also a b that no n bytes have: what the brackets of the promise say.
func TestJoinOfAnyWords(t *testing.T) {
	wantJoin(t, 7, 9, 0, 14, api.OK)
	wantJoin(t, 0xFFFFFFFF, 0xFFFFFFFF, 0, 0, api.OK)
	for n := range 70 {
		zeros := make([]byte, n)
		for seed := range uint32(40) {
			x := some(4, seed)
			b := plain(some(4, seed+1000))
			wantJoin(t, plain(x), b, n, plain(behind(x, zeros...))^b^plain(zeros), api.OK)
		}
	}
}

// P1.2: far n, against another way to them; each power of two, its neighbours, and both ends.
func TestJoinFar(t *testing.T) {
	for k := range 41 {
		for _, n := range []int{1<<k - 1, 1 << k, 1<<k + 1} {
			if n > far {
				continue
			}
			for _, a := range []uint32{0, 1, 1 << 31, 0xFFFFFFFF, 0xCBF43926} {
				wantJoin(t, a, 0x12345678, n, pushed(a, n)^0x12345678, api.OK)
			}
		}
	}
}

// P1.3: the chapter's examples.
func TestTurnExamples(t *testing.T) {
	one := func(c byte) []byte { return []byte{c} }
	wantTurn(t, 0xCBF43926, 9, 2, one('3'), one('3'), 0xCBF43926, api.OK)
	wantTurn(t, of("120456789"), 9, 2, one('0'), one('3'), 0xCBF43926, api.OK)
	wantTurn(t, 5, 9, 9, nil, nil, 5, api.OK)
	wantTurn(t, 5, 9, 9, one('a'), one('b'), 0, api.ErrInval)
	wantTurn(t, 5, 9, 3, one('a'), []byte("bc"), 0, api.ErrInval)
	wantTurn(t, 5, 9, -1, nil, nil, 0, api.ErrInval)
	wantTurn(t, 5, -1, 0, nil, nil, 0, api.ErrInval)
}

// P1.3: what may just be, and what may not be any more.
func TestTurnEdges(t *testing.T) {
	a, b := []byte("ab"), []byte("xy")
	for _, c := range []struct {
		n, at    int
		was, now []byte
		err      api.Errno
	}{
		{0, 0, nil, []byte{}, api.OK},
		{9, 9, []byte{}, nil, api.OK},
		{9, 7, a, b, api.OK},
		{2, 0, a, b, api.OK},
		{far, 0, a, b, api.OK},
		{far, far - 2, a, b, api.OK},
		{far, far, nil, nil, api.OK},
		{0, 1, nil, nil, api.ErrInval},
		{0, 0, a, b, api.ErrInval},
		{1, 0, a, b, api.ErrInval},
		{9, 8, a, b, api.ErrInval},
		{9, 10, nil, nil, api.ErrInval},
		{9, 0, a, nil, api.ErrInval},
		{9, 0, nil, b, api.ErrInval},
		{9, 0, a, b[:1], api.ErrInval},
		{far, far - 1, a, b, api.ErrInval},
		{far + 1, 0, nil, nil, api.ErrInval},
		{far + 1, 0, a, b, api.ErrInval},
		{math.MaxInt, 0, a, b, api.ErrInval},
		{math.MinInt, 0, a, b, api.ErrInval},
		{-1, -1, nil, nil, api.ErrInval},
		{9, math.MinInt, a, b, api.ErrInval},
		{9, math.MaxInt, a, b, api.ErrInval},
		{9, math.MaxInt - 1, a, b, api.ErrInval},
		{far, math.MaxInt, a, b, api.ErrInval},
	} {
		want := uint32(0)
		if c.err == api.OK {
			want = 0xCBF43926 ^ pushed(plain(c.was)^plain(c.now), c.n-c.at-len(c.was))
		}
		wantTurn(t, 0xCBF43926, c.n, c.at, c.was, c.now, want, c.err)
	}
}

// P1.3: of any s, also one of other bytes: s laid over with the two sums, each with its zeros.
func TestTurnOfAnyWord(t *testing.T) {
	for rest := range 50 {
		zeros := make([]byte, rest)
		for length := range 9 {
			was, now := some(length, 1), some(length, 2)
			want := 5 ^ plain(behind(was, zeros...)) ^ plain(behind(now, zeros...))
			wantTurn(t, 5, 3+length+rest, 3, was, now, want, api.OK)
		}
	}
}

// P1.4: however bytes are cut, into two and into three.
func TestPieces(t *testing.T) {
	b := some(60, 3)
	whole := sum.Of(b)
	for i := range len(b) + 1 {
		wantJoin(t, sum.Of(b[:i]), sum.Of(b[i:]), len(b)-i, whole, api.OK)
		for k := i; k <= len(b); k++ {
			front, e := sum.Join(sum.Of(b[:i]), sum.Of(b[i:k]), k-i)
			if e != api.OK {
				t.Fatalf("Join at %d, %d: %v", i, k, e)
			}
			wantJoin(t, front, sum.Of(b[k:]), len(b)-k, whole, api.OK)
		}
	}
	long := some(100000, 4)
	for _, i := range []int{0, 1, 512, 4096, 65535, 99999, 100000} {
		wantJoin(t, sum.Of(long[:i]), sum.Of(long[i:]), len(long)-i, sum.Of(long), api.OK)
	}
}

// P1.4: zeros behind zeros are as many zeros at once.
func TestZerosAddUp(t *testing.T) {
	counts := []int{0, 1, 2, 3, 511, 512, 1000, 1<<20 + 7, 1<<39 - 1, 1 << 39, 1<<39 + 1, far - 1, far}
	for _, n := range counts {
		for _, m := range counts {
			if n+m > far {
				continue
			}
			for _, a := range []uint32{0, 1, 12345, 0x80000000, 0xFFFFFFFF} {
				front, _ := sum.Join(a, 0, n)
				both, _ := sum.Join(a, 0, n+m)
				wantJoin(t, front, 0, m, both, api.OK)
			}
		}
	}
}

// P1.5: every piece of a row of bytes, at its beginning and at its very end too.
func TestMiddle(t *testing.T) {
	b, other := some(40, 5), some(40, 6)
	for at := range len(b) + 1 {
		for end := at; end <= len(b); end++ {
			changed := bytes.Clone(b)
			copy(changed[at:end], other)
			wantTurn(t, sum.Of(b), len(b), at, b[at:end], other[:end-at], sum.Of(changed), api.OK)
		}
	}
	long := some(50000, 9)
	changed := bytes.Clone(long)
	copy(changed[300:], other)
	wantTurn(t, sum.Of(long), len(long), 300, long[300:340], other, sum.Of(changed), api.OK)
}

// independent tells whether no exclusive or of some of the words is zero.
func independent(words []uint32) bool {
	var byTop [32]uint32
	for _, w := range words {
		for top := 31; top >= 0 && w != 0; top-- {
			if w>>top&1 == 0 {
				continue
			}
			if byTop[top] == 0 {
				byTop[top] = w
				break
			}
			w ^= byTop[top]
		}
		if w == 0 {
			return false
		}
	}
	return true
}

// P1.6: what single bits do to the sum, any 32 that follow one another, is independent: so no burst, of all 2^32 - 1 patterns at each place, lets the sum be.
func TestBurstIsTold(t *testing.T) {
	b := some(80, 10)
	whole := sum.Of(b)
	flips := make([]uint32, 8*len(b))
	for i := range flips {
		b[i/8] ^= 1 << (i % 8)
		flips[i] = sum.Of(b) ^ whole
		b[i/8] ^= 1 << (i % 8)
	}
	for from := 0; from+32 <= len(flips); from++ {
		if !independent(flips[from : from+32]) {
			t.Fatalf("some burst from bit %d on is not told", from)
		}
	}
	// A burst does to the sum what its bits do, each by itself: asked of some patterns, of which all have both ends set.
	for from := 0; from+32 <= len(flips); from += 5 {
		pattern := uint32(from)*2654435761 | 1<<31 | 1
		changed, want := bytes.Clone(b), whole
		for k := range 32 {
			if i := from + k; pattern>>k&1 == 1 {
				changed[i/8] ^= 1 << (i % 8)
				want ^= flips[i]
			}
		}
		if w := sum.Of(changed); w != want || w == whole {
			t.Errorf("the burst %08X from bit %d on: %08X, want %08X, ahead of it %08X", pattern, from, w, want, whole)
		}
	}
}

// P1.6: short rows, all of whose bits lie in one burst: all of one and two bytes, those of four bytes that differ in one or two bits.
func TestShortRowsAreToldApart(t *testing.T) {
	seen := map[uint32]int{}
	for x := range 1 << 16 {
		w := sum.Of([]byte{byte(x), byte(x >> 8)})
		if y, ok := seen[w]; ok {
			t.Fatalf("%04X and %04X have the sum %08X", x, y, w)
		}
		seen[w] = x
	}
	none := sum.Of(make([]byte, 4))
	for i := range 32 {
		for k := range 32 {
			b := make([]byte, 4)
			b[i/8] ^= 1 << (i % 8)
			b[k/8] ^= 1 << (k % 8)
			if (sum.Of(b) == none) != (i == k) {
				t.Errorf("bits %d and %d: %08X, of none %08X", i, k, sum.Of(b), none)
			}
		}
	}
}

// P1.7: numbers from all over, in all places, are answered soon and without a panic.
func TestEndsSoon(t *testing.T) {
	done := make(chan any, 1)
	go func() {
		defer func() { done <- recover() }()
		callWithAll()
	}()
	select {
	case p := <-done:
		if p != nil {
			t.Fatalf("a call panicked: %v", p)
		}
	case <-time.After(time.Minute):
		t.Fatal("the calls don't end")
	}
}

func callWithAll() {
	numbers := []int{math.MinInt, math.MinInt + 1, -far, -1, 0, 1, 2, 512, 1 << 31, 1<<32 + 1, far - 2, far - 1, far, far + 1, math.MaxInt - 1, math.MaxInt}
	pieces := [][]byte{nil, {}, {0}, {255}, some(3, 1), some(512, 2), some(70000, 3)}
	for _, n := range numbers {
		sum.Join(0xFFFFFFFF, 1, n)
		for _, at := range numbers {
			for _, was := range pieces {
				for _, now := range pieces {
					sum.Turn(0xFFFFFFFF, n, at, was, now)
				}
			}
		}
	}
	for _, p := range pieces {
		sum.Of(p)
	}
}
