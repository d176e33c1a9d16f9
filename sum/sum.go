// Package sum is layer 1: CRC-32 of bytes, of pieces joined, of a piece changed: see shared/doc/01-sum.md.
package sum

import "bole/api"

const (
	polynomial = 0xEDB88320
	allOnes    = 0xFFFFFFFF
	maxLen     = 1 << 40
)

// halves is what four places do to a word of which only the lowest four bits, the index, are set: half a byte at a time is quick enough, and a table for whole bytes would be sixteen times as long.
var halves = makeHalves()

func makeHalves() [16]uint32 {
	var t [16]uint32
	for i := range t {
		w := uint32(i)
		for range 4 {
			w = onePlace(w)
		}
		t[i] = w
	}
	return t
}

func onePlace(w uint32) uint32 {
	if w&1 == 1 {
		return w>>1 ^ polynomial
	}
	return w >> 1
}

func eightPlaces(w uint32) uint32 {
	w = w>>4 ^ halves[w&15]
	return w>>4 ^ halves[w&15]
}

// Of is the CRC-32 of bytes.
func Of(b []byte) uint32 {
	w := uint32(allOnes)
	for _, c := range b {
		w = eightPlaces(w ^ uint32(c))
	}
	return ^w
}

// Join is that of two pieces one behind the other, by theirs and by how many bytes the second one has.
func Join(a, b uint32, n int) (uint32, api.Errno) {
	if n < 0 || n > maxLen {
		return 0, api.ErrInval
	}
	// The ones at the beginning and at the end are in the sum of n zeros too, so both go out: only what the zeros do to a is left.
	return zerosBehind(a, n) ^ b, api.OK
}

// Turn is that of n bytes of which a piece is another one now, by what it was.
func Turn(s uint32, n, at int, was, now []byte) (uint32, api.Errno) {
	if n < 0 || at < 0 || n > maxLen || len(was) != len(now) {
		return 0, api.ErrInval
	}
	// By differences, as at and the length together may be more than an int holds.
	if at > n || len(was) > n-at {
		return 0, api.ErrInval
	}
	// Both pieces have one length, so in their difference the ones go out, as in Join.
	return s ^ zerosBehind(Of(was)^Of(now), n-at-len(was)), api.OK
}

// zeros is what a number of zero bytes does to each bit of a word by itself. It is linear: what they do to a word is the exclusive or of what they do to its bits.
type zeros [32]uint32

func oneZero() zeros {
	var z zeros
	for i := range z {
		z[i] = eightPlaces(1 << i)
	}
	return z
}

func (z zeros) apply(w uint32) uint32 {
	var out uint32
	for i, bit := range z {
		if w>>i&1 == 1 {
			out ^= bit
		}
	}
	return out
}

func (z zeros) squared() zeros {
	var out zeros
	for i, bit := range z {
		out[i] = z.apply(bit)
	}
	return out
}

// zerosBehind lets n zero bytes go over a word, in as many squarings as n has bits: n may be 2^40, far too many to go one by one.
func zerosBehind(w uint32, n int) uint32 {
	z := oneZero()
	for ; n > 0; n >>= 1 {
		if n&1 == 1 {
			w = z.apply(w)
		}
		z = z.squared()
	}
	return w
}
