package slots_test

import (
	"bytes"
	"math/rand"
	"slices"
	"testing"

	"bole/api"
	"bole/slots"
)

// without is a list without the cell at a place.
func without(l []api.Entry, place int) []api.Entry {
	return slices.DeleteFunc(slices.Clone(l), func(e api.Entry) bool { return e.Place == place })
}

// lowestOf is the lowest place that no cell of the list has.
func lowestOf(l []api.Entry) int {
	for k := range 16 {
		if !slices.ContainsFunc(l, func(e api.Entry) bool { return e.Place == k }) {
			return k
		}
	}
	return -1
}

// P14.6: behind Put on a right block Read tells it at its place and all others as before; behind Clear all others.
func TestPutThenRead(t *testing.T) {
	for _, b := range samples() {
		was, _, _ := plain(b)
		for k := range 16 {
			for _, e := range []api.Entry{cell(k, "p", 1), cell(k, rep("q", 27), topNode), cell(k, "...", 256)} {
				now := bytes.Clone(b)
				slots.Put(now, e)
				want := append(without(was, k), e)
				slices.SortFunc(want, func(a, b api.Entry) int { return a.Place - b.Place })
				wantBoth(t, now, want, lowestOf(want), api.OK)

				slots.Clear(now, k)
				wantBoth(t, now, without(was, k), lowestOf(without(was, k)), api.OK)
			}
		}
	}
}

// P14.6: what Read tells, put anew into zeros in any order, is the same block byte by byte.
func TestOneForm(t *testing.T) {
	r := rand.New(rand.NewSource(14))
	for _, b := range samples() {
		l, err := slots.Read(b)
		if err != api.OK {
			t.Fatalf("Read: %d", err)
		}
		for range 20 {
			now := zeros()
			r.Shuffle(len(l), func(i, k int) { l[i], l[k] = l[k], l[i] })
			for _, e := range l {
				slots.Put(now, e)
			}
			if !bytes.Equal(now, b) {
				t.Errorf("P14.6: %s read and put anew is %s", short(b), short(now))
			}
		}
	}
}

// P14.6: of any bytes that are a right block no others read the same: put anew, all of its bytes come back.
func TestOneFormOfAnyBytes(t *testing.T) {
	r := rand.New(rand.NewSource(146))
	right := 0
	for range 60000 {
		b := anyBlock(r)
		l, err := slots.Read(b)
		if err != api.OK {
			continue
		}
		right++
		now := zeros()
		for _, e := range l {
			slots.Put(now, e)
		}
		if !bytes.Equal(now, b) {
			t.Fatalf("P14.6: %s read and put anew is %s", short(b), short(now))
		}
	}
	if right < 5000 || right > 55000 {
		t.Errorf("%d of the blocks were right", right)
	}
}

// anyText is a text of names' bytes, now and then with others; mostly of a length that a name may have.
func anyText(r *rand.Rand) string {
	n := 1 + r.Intn(27)
	switch r.Intn(8) {
	case 0:
		n = 1 + r.Intn(3)
	case 1:
		n = 25 + r.Intn(5)
	case 2:
		n = r.Intn(2)
	}
	s := make([]byte, n)
	for i := range s {
		s[i] = "ab.xyz\xff\x80"[r.Intn(8)]
	}
	if n > 0 && r.Intn(12) == 0 {
		s[r.Intn(n)] = "/\x00"[r.Intn(2)]
	}
	return string(s)
}

func anyInode(r *rand.Rand) int {
	l := append(inodes(), noInodes()...)
	if r.Intn(3) == 0 {
		return l[r.Intn(len(l))]
	}
	return 1 + r.Intn(topNode)
}

func anyPlace(r *rand.Rand) int {
	if l := noPlaces(); r.Intn(8) == 0 {
		return l[r.Intn(len(l))]
	}
	return r.Intn(16)
}

// anyBlock is a right block with, mostly, a byte or two changed, or a cell.
func anyBlock(r *rand.Rand) []byte {
	b := zeros()
	for k := range 16 {
		if s := anyText(r); plainName(s) && r.Intn(3) > 0 {
			b = with(b, k, plainBytes(cell(k, s, 1+r.Intn(topNode))))
		}
	}
	for range r.Intn(3) {
		b[r.Intn(512)] = []byte{0, 1, 'a', '/', 27, 28, 255}[r.Intn(7)]
	}
	if r.Intn(20) == 0 {
		b[32*r.Intn(16)+4]++
	}
	return b
}

// P14.1 to P14.6: rows of any calls on any bytes, each against the chapter's words said plainly; each answer comes out often.
func TestAnyCalls(t *testing.T) {
	r := rand.New(rand.NewSource(1414))
	count := map[string]int{}
	for range 3000 {
		b := anyBlock(r)
		if r.Intn(15) == 0 {
			b = b[:r.Intn(512)]
		} else if r.Intn(15) == 0 {
			b = append(b, make([]byte, 1+r.Intn(600))...)
		}
		for range 12 {
			taken, low, err := plain(b)
			wantBoth(t, b, taken, low, err)
			count["read "+err.Error()]++
			if r.Intn(2) == 0 {
				e := cell(anyPlace(r), anyText(r), anyInode(r))
				_, err = plainPut(b, e)
				b = wantPutPlain(t, b, e)
				count["put "+err.Error()]++
			} else {
				k := anyPlace(r)
				_, err = plainClear(b, k)
				b = wantClearPlain(t, b, k)
				count["clear "+err.Error()]++
			}
			if t.Failed() {
				return
			}
		}
	}
	for _, call := range []string{"read ", "put ", "clear "} {
		for _, err := range []api.Errno{api.OK, api.ErrSize, api.ErrCell} {
			if n := count[call+err.Error()]; n < 500 {
				t.Errorf("%s%v came out %d times", call, err, n)
			}
		}
	}
}
