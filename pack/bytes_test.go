package pack_test

import (
	"bytes"
	"encoding/binary"
	"fmt"
	"math"
	"math/rand"
	"runtime"
	"slices"
	"testing"
	"time"

	"bole/api"
	"bole/pack"
)

// smallList is one of each kind of item, in few bytes.
func smallList() []pack.Item {
	return []pack.Item{dir(""), file("a", 515, "xyz", 1), link("b", "t"), again("c", api.KindFile, 1)}
}

// P24.2, P24.3: lists of many items and great ones, byte by byte.
func TestEncode(t *testing.T) {
	isRight(t, "the small list", smallList())
	isRight(t, "example 2", exampleList())
	for _, n := range []int{1, 2, 255, 256, 257, 65535, 65536, 70000} {
		l := []pack.Item{dir("")}
		for k := 1; k < n; k++ {
			x := empty(fmt.Sprintf("%06d", k))
			if k%3 == 2 {
				x.Same = k - 1
			}
			l = append(l, x)
		}
		b := encoded(t, l)
		if m, e := pack.Decode(b); e != api.OK || !same(l, m) {
			t.Errorf("P24.3: of %d items Decode =%s, %d", n, told(m), e)
		}
		if n < 300 {
			isRight(t, "many items", l)
		} else if !bytes.Equal(b, plainBytes(l)) {
			t.Errorf("P24.2: of %d items: other bytes", n)
		}
	}
}

// P24.2, P24.3: a file of MaxFile bytes, all of whose pieces are there.
func TestEncodeGreatest(t *testing.T) {
	l := in(file("f", api.MaxFile, rep("0123456789abcdef", api.MaxFile/16), all(api.MaxBlocks)...))
	b := encoded(t, l)
	if !bytes.Equal(b, plainBytes(l)) {
		t.Error("P24.2: of the greatest file: other bytes")
	}
	if m, e := pack.Decode(b); e != api.OK || !same(l, m) {
		t.Errorf("P24.3: of the greatest file Decode =%s, %d", told(m), e)
	}
	n := &noter{}
	if e := pack.Put(n, "/n", l); e != api.OK || !slices.Equal(n.asked, plainCalls("/n", l)) || len(n.asked) != 2+api.MaxBlocks {
		t.Errorf("P24.4: of the greatest file Put = %d, with %d calls", e, len(n.asked))
	}
}

// P24.5: each byte changed to each other one is ErrPack.
func TestEveryByteChanged(t *testing.T) {
	for _, l := range [][]pack.Item{{dir("")}, {empty("")}, smallList()} {
		b := encoded(t, l)
		for i := range b {
			for c := range 256 {
				if byte(c) == b[i] {
					continue
				}
				bad := slices.Clone(b)
				bad[i] = byte(c)
				noPack(t, fmt.Sprintf("byte %d is %d", i, c), bad)
			}
		}
	}
	b := encoded(t, exampleList())
	for i := range b {
		for _, by := range []byte{1, 0x80, 0xff} {
			bad := slices.Clone(b)
			bad[i] ^= by
			noPack(t, fmt.Sprintf("byte %d is turned by %d", i, by), bad)
		}
	}
}

// P24.3: each byte changed to each other one, under a right sum: the list that has just these bytes, if there is one.
func TestEveryByteChangedAndSealed(t *testing.T) {
	found := 0
	for _, l := range [][]pack.Item{{dir("")}, {empty("")}, {link("", "xyz")}, smallList()} {
		b := open(plainBytes(l))
		for i := range b {
			for c := range 256 {
				other := slices.Clone(b)
				other[i] = byte(c)
				if decodes(t, fmt.Sprintf("byte %d is %d", i, c), sealed(other)) {
					found++
				}
			}
		}
	}
	if found < 2500 {
		t.Errorf("only %d of them were packs", found)
	}
}

// decodes holds what Decode answers of any bytes against the chapter's words said plainly: whether it is a list.
func decodes(t *testing.T, what string, b []byte) bool {
	t.Helper()
	want, is := plainList(b)
	if !is {
		noPack(t, what, b)
		return false
	}
	if l, e := pack.Decode(b); e != api.OK || !same(l, want) {
		t.Errorf("P24.3: %s: Decode of %d bytes =%s, %d, want%s, 0", what, len(b), told(l), e, told(want))
	}
	if again, e := pack.Encode(want); e != api.OK || !bytes.Equal(again, b) {
		t.Errorf("P24.2: %s: Encode(%s) = %d bytes, %d", what, told(want), len(again), e)
	}
	return true
}

// P24.5: cut at each place, without a sum of its own and with one.
func TestCutAnywhere(t *testing.T) {
	for _, l := range [][]pack.Item{{dir("")}, {empty("")}, smallList(), exampleList()} {
		b := encoded(t, l)
		for n := range len(b) {
			noPack(t, fmt.Sprintf("cut at %d", n), b[:n])
			noPack(t, fmt.Sprintf("the first %d left out", len(b)-n), b[len(b)-n:])
			if n < len(b)-4 {
				noPack(t, fmt.Sprintf("cut at %d and sealed", n), sealed(b[:n]))
				noPack(t, fmt.Sprintf("without byte %d, sealed", n), sealed(slices.Delete(slices.Clone(open(b)), n, n+1)))
			}
		}
	}
}

// P24.5: with any number of bytes put behind, or ahead.
func TestBytesBehind(t *testing.T) {
	for _, l := range [][]pack.Item{{dir("")}, smallList(), exampleList()} {
		b := encoded(t, l)
		for n := 1; n < 100; n++ {
			for _, c := range []byte{0, 1, 0xff} {
				more := bytes.Repeat([]byte{c}, n)
				noPack(t, fmt.Sprintf("%d bytes %d behind", n, c), slices.Concat(b, more))
				noPack(t, fmt.Sprintf("%d bytes %d behind, sealed", n, c), sealed(slices.Concat(open(b), more)))
				noPack(t, fmt.Sprintf("%d bytes %d behind the sum, sealed", n, c), sealed(slices.Concat(b, more)))
				noPack(t, fmt.Sprintf("%d bytes %d ahead", n, c), slices.Concat(more, b))
				noPack(t, fmt.Sprintf("%d bytes %d ahead, sealed", n, c), sealed(slices.Concat(more, open(b))))
			}
		}
		noPack(t, "twice", slices.Concat(b, b))
		noPack(t, "sealed twice", sealed(b))
		noPack(t, "the items twice", sealed(slices.Concat(open(b), b[12:])))
	}
}

// P24.3: no bytes, and few.
func TestFewBytes(t *testing.T) {
	noPack(t, "nil", nil)
	noPack(t, "no bytes", []byte{})
	for n := range 40 {
		for _, c := range []byte{0, 1, 'B', 0xff} {
			b := bytes.Repeat([]byte{c}, n)
			noPack(t, "bytes", b)
			noPack(t, "sealed", sealed(b))
		}
		b := make([]byte, n)
		copy(b, "BOLEPAK1\x00\x00\x00\x00")
		noPack(t, "no items", sealed(b))
	}
	for _, mark := range []string{"", "B", "BOLEPAK", "BOLEPAK0", "BOLEPAK2", "bolepak1", "BOLEFS01", "BOLELOG1", "BOLEPAK1 ", " BOLEPAK1", "\x00BOLEPAK1", "1KAPELOB"} {
		noPack(t, "the mark "+mark, sealed(append([]byte(mark), plainBytes(smallList())[8:len(plainBytes(smallList()))-4]...)))
	}
}

// P24.2, P24.3: the sum is that of all ahead of it, its lowest byte first.
func TestOtherSums(t *testing.T) {
	front := open(plainBytes(smallList()))
	right := sealed(front)[len(front):]
	for what, s := range map[string][]byte{
		"zeros":          {0, 0, 0, 0},
		"highest first":  {right[3], right[2], right[1], right[0]},
		"turned over":    {^right[0], ^right[1], ^right[2], ^right[3]},
		"without a mark": sealed(front[8:])[len(front)-8:],
		"of the items":   sealed(front[12:])[len(front)-12:],
		"of zeros too":   sealed(slices.Concat(front, make([]byte, 4)))[len(front)+4:],
	} {
		noPack(t, "the sum is "+what, slices.Concat(front, s))
	}
}

// place is where a number of the small list stands in its bytes, and how wide it is.
type place struct {
	what      string
	at, width int
}

// places are those that say how much follows.
func places() []place {
	first := 12
	a := first + 19
	b := a + 19 + 1 + 4 + 3
	return []place{
		{"how many items", 8, 4},
		{"how long the first Path is", first + 1, 2},
		{"how many Pieces the first item has", first + 11, 4},
		{"how long the first Data is", first + 15, 4},
		{"how long a's Path is", a + 1, 2},
		{"how many Pieces a has", a + 12, 4},
		{"how long a's Data is", a + 20, 4},
		{"how long b's Path is", b + 1, 2},
		{"how many Pieces b has", b + 12, 4},
		{"how long b's Data is", b + 16, 4},
	}
}

// soon holds that Decode of bytes that are no pack ends soon, and takes little memory.
func soon(t *testing.T, what string, b []byte, most uint64) {
	t.Helper()
	var ahead, behind runtime.MemStats
	runtime.ReadMemStats(&ahead)
	begun := time.Now()
	l, e := pack.Decode(b)
	took := time.Since(begun)
	runtime.ReadMemStats(&behind)
	if e != api.ErrPack || len(l) != 0 {
		t.Errorf("P24.3: %s: Decode =%s, %d", what, told(l), e)
	}
	if got := behind.TotalAlloc - ahead.TotalAlloc; got > most || took > 5*time.Second {
		t.Errorf("P24.3: %s: Decode of %d bytes took %d bytes and %v", what, len(b), got, took)
	}
}

// P24.3: numbers that reach behind the end, by one and by far: they end soon, and take little memory.
func TestNumbersBehindTheEnd(t *testing.T) {
	front := open(plainBytes(smallList()))
	for _, p := range places() {
		b := slices.Clone(front)
		was := uint64(b[p.at]) | uint64(b[p.at+1])<<8
		for _, v := range []uint64{was + 1, was + 2, was + 3, was + 4, was + 100, 1<<15 - 1, 1 << 15, 1<<16 - 1, 1 << 16, 1 << 24, 1<<31 - 1, 1 << 31, 1<<32 - 2, 1<<32 - 1, uint64(len(b)), uint64(len(b) - p.at), uint64(len(b) - p.at - p.width)} {
			if v >= 1<<(8*p.width) {
				continue
			}
			var wide [8]byte
			binary.LittleEndian.PutUint64(wide[:], v)
			copy(b[p.at:p.at+p.width], wide[:])
			soon(t, fmt.Sprintf("%s: %d", p.what, v), sealed(b), 1<<16)
			decodes(t, p.what, sealed(b))
		}
	}
}

// P24.3: great numbers in many bytes are left at the first thing that is wrong.
func TestGreatNumbersInManyBytes(t *testing.T) {
	const many = 8 << 20
	head := func(items, pieces uint32) []byte {
		b := binary.LittleEndian.AppendUint32([]byte("BOLEPAK1"), items)
		b = append(b, 1, 0, 0, 0, 0, 0, 0, 0, 0, 0, 0)
		return binary.LittleEndian.AppendUint32(b, pieces)
	}
	tail := make([]byte, many)
	soon(t, "as many items as may be, all of no Kind", sealed(slices.Concat([]byte("BOLEPAK1\xff\xff\xff\xff"), tail)), 1<<16)
	soon(t, "as many items as may be, the second wrong", sealed(slices.Concat(head(math.MaxUint32, 0), tail)), 1<<16)
	soon(t, "one item, and zeros behind", sealed(slices.Concat(head(1, 0), tail)), 1<<16)
	soon(t, "as many pieces as may be", sealed(slices.Concat(head(1, math.MaxUint32), tail)), 1<<16)
	soon(t, "as many pieces as there are bytes", sealed(slices.Concat(head(1, many), tail)), 1<<16)
	soon(t, "as many pieces as have room", sealed(slices.Concat(head(1, many/4), tail)), 3*many)
	soon(t, "as many bytes as may be", sealed(slices.Concat(head(1, 0), []byte("\xff\xff\xff\xff"), tail)), 1<<16)
	soon(t, "a sum that isn't right", slices.Concat(head(math.MaxUint32, math.MaxUint32), tail), 1<<16)
}

// P24.3: any bytes under a right sum, mostly those of a list with some changed, moved, left out or put in.
func TestDrawnBytes(t *testing.T) {
	r := rand.New(rand.NewSource(24))
	packs, others := 0, 0
	for range 20000 {
		l := drawnList(r, 1+r.Intn(8))
		if r.Intn(4) == 0 {
			spoil(r, l)
		}
		b := open(plainBytes(l))
		for range r.Intn(3) {
			at := r.Intn(len(b))
			switch r.Intn(6) {
			case 0:
				b[at] = byte(r.Intn(256))
			case 1:
				b[at] = byte(r.Intn(4))
			case 2:
				b = slices.Delete(b, at, at+1)
			case 3:
				b = slices.Insert(b, at, byte(r.Intn(4)))
			case 4:
				b = append(b, b[at:]...)
			case 5:
				b[at]++
			}
		}
		if decodes(t, "drawn", sealed(b)) {
			packs++
		} else {
			others++
		}
	}
	if packs < 4000 || others < 4000 {
		t.Errorf("%d were packs, %d not", packs, others)
	}
	for range 2000 {
		b := make([]byte, r.Intn(200))
		r.Read(b)
		noPack(t, "any bytes", b)
		noPack(t, "any bytes, sealed", sealed(b))
		noPack(t, "any bytes behind the mark", sealed(append([]byte("BOLEPAK1\x01\x00\x00\x00"), b...)))
	}
}
