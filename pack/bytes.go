package pack

import (
	"bytes"
	"slices"

	"bole/api"
	"bole/rec"
	"bole/sum"
)

const mark = "BOLEPAK1"

// How many bytes numbers have.
const (
	kindWidth = 1
	pathWidth = 2 // how long a Path is
	wordWidth = 4 // all others
)

type writer struct{ written []byte }

// number writes a number that has this width, as all those of a right list have.
func (w *writer) number(v, width int) {
	at := len(w.written)
	w.written = append(w.written, make([]byte, width)...)
	rec.Put(w.written, at, width, uint64(v))
}

// text writes a text, and how long it is ahead of it.
func (w *writer) text(s string, width int) {
	w.number(len(s), width)
	w.written = append(w.written, s...)
}

func (w *writer) item(x Item) {
	w.number(x.Kind, kindWidth)
	w.text(x.Path, pathWidth)
	// So that there being none is a number too.
	w.number(x.Same+1, wordWidth)
	w.number(x.Size, wordWidth)
	w.number(len(x.Pieces), wordWidth)
	for _, p := range x.Pieces {
		w.number(p, wordWidth)
	}
	w.text(x.Data, wordWidth)
}

// Encode writes items.
func Encode(l []Item) ([]byte, api.Errno) {
	if !isRight(l) {
		return nil, api.ErrPack
	}
	w := &writer{written: []byte(mark)}
	w.number(len(l), wordWidth)
	for _, x := range l {
		w.item(x)
	}
	w.number(int(sum.Of(w.written)), wordWidth)
	return w.written, api.OK
}

// reader reads what a writer may have written. Where the bytes give out it reads zeros and empty texts.
type reader struct {
	left []byte // what isn't read yet
	out  bool   // the bytes have given out
}

// next cuts off n bytes.
func (r *reader) next(n int) []byte {
	if n > len(r.left) {
		r.out, r.left = true, nil
		return nil
	}
	b := r.left[:n]
	r.left = r.left[n:]
	return b
}

func (r *reader) number(width int) int {
	// Of no bytes it answers 0, which is what is read then.
	v, _ := rec.Get(r.next(width), 0, width)
	return int(v)
}

// text reads a text, and how long it is ahead of it.
func (r *reader) text(width int) string { return string(r.next(r.number(width))) }

// numbers reads some numbers, and how many they are ahead of them. Their bytes are cut off first: no room is made for what isn't there.
func (r *reader) numbers() []int {
	n := r.number(wordWidth)
	in := reader{left: r.next(wordWidth * n)}
	l := slices.Grow([]int(nil), len(in.left)/wordWidth)
	for len(in.left) > 0 {
		l = append(l, in.number(wordWidth))
	}
	return l
}

func (r *reader) item() Item {
	var x Item
	x.Kind = r.number(kindWidth)
	x.Path = r.text(pathWidth)
	x.Same = r.number(wordWidth) - 1
	x.Size = r.number(wordWidth)
	x.Pieces = r.numbers()
	x.Data = r.text(wordWidth)
	return x
}

// unsealed is what stands between the mark and the sum.
func unsealed(b []byte) ([]byte, bool) {
	at := len(b) - wordWidth
	v, e := rec.Get(b, at, wordWidth)
	if e != api.OK || v != uint64(sum.Of(b[:at])) {
		return nil, false
	}
	return bytes.CutPrefix(b[:at], []byte(mark))
}

// Decode reads them.
func Decode(b []byte) ([]Item, api.Errno) {
	body, sealed := unsealed(b)
	if !sealed {
		return nil, api.ErrPack
	}
	r, c := &reader{left: body}, newChecker()
	var l []Item
	for range r.number(wordWidth) {
		x := r.item()
		// Each is asked at once, so that bytes that are no list are left at their first wrong item.
		if r.out || !c.takes(l, x) {
			return nil, api.ErrPack
		}
		l = append(l, x)
	}
	if len(l) == 0 || len(r.left) > 0 {
		return nil, api.ErrPack
	}
	return l, api.OK
}
