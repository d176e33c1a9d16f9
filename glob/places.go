package glob

const (
	wordBits = 64
	words    = maxPattern/wordBits + 1
)

// places is a set of places in a pattern: place k is the one ahead of its k-th piece, or behind the last. (A '*' is no piece here: it makes a place loose.) No pattern has more pieces than bytes, so they fit.
type places [words]uint64

// front is where a pattern begins.
func front() places { return places{1} }

func (s *places) put(k int) { s[k/wordBits] |= 1 << (k % wordBits) }

func (s *places) has(k int) bool { return s[k/wordBits]>>(k%wordBits)&1 == 1 }

// behind is the places that are come to by one thing more: the thing is passed over at a loose place, and leads on by one from each of the places from.
func (s *places) behind(loose, from *places) places {
	var next places
	carry := uint64(0)
	for i, now := range s {
		on := now & from[i]
		next[i] = now&loose[i] | on<<1 | carry
		carry = on >> (wordBits - 1)
	}
	return next
}
