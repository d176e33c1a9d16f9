package glob

import (
	"strings"

	"bole/api"
)

// maxPattern is how many bytes a pattern of a name may have.
const maxPattern = 1024

// nothing is the byte at a text's end: no pattern has it.
const nothing = 0

// reader reads a pattern of a name from the left to the right.
type reader struct {
	left   string // what isn't read yet
	inside bool   // a '[' was read, and its ']' not yet
	wrong  bool   // what was read begins no pattern
	read   namePattern
}

// readName reads a pattern of a name.
func readName(text string) (*namePattern, api.Errno) {
	if len(text) > maxPattern || strings.ContainsAny(text, "/\x00") {
		return nil, api.ErrPattern
	}
	r := reader{left: text}
	for r.left != "" && !r.wrong {
		r.piece()
	}
	if r.wrong {
		return nil, api.ErrPattern
	}
	return &r.read, api.OK
}

func (r *reader) peek() byte {
	if r.left == "" {
		return nothing
	}
	return r.left[0]
}

// next reads a byte, which must be there.
func (r *reader) next() byte {
	c := r.peek()
	if c == nothing {
		r.wrong = true
		return c
	}
	r.left = r.left[1:]
	return c
}

// takes reads a byte, if it is this one.
func (r *reader) takes(c byte) bool {
	if r.peek() != c {
		return false
	}
	r.next()
	return true
}

// piece reads a piece. A plain byte is a set of one item; a '[' leads to as many as stand ahead of its ']'.
func (r *reader) piece() {
	var one set
	switch r.peek() {
	case '*':
		r.next()
		r.read.loose.put(len(r.read.ones))
		return
	case '?':
		r.next()
		one.turned = true
	case '[':
		r.next()
		r.inside = true
		one.turned = r.takes('!')
		// No item begins with it: there is none.
		r.wrong = r.peek() == ']'
		fallthrough
	default:
		one.spans = r.items()
	}
	r.read.ones = append(r.read.ones, one)
}

// items reads one item; inside of '[' all that follow it too, and the ']'.
func (r *reader) items() []span {
	l := []span{r.item()}
	for r.inside && !r.wrong {
		if r.takes(']') {
			r.inside = false
		} else {
			l = append(l, r.item())
		}
	}
	return l
}

// item reads an item. Outside of '[' there are no ranges.
func (r *reader) item() span {
	low := r.plain()
	high := low
	if r.inside && r.isRange() {
		r.next()
		high = r.plain()
	}
	if high < low {
		r.wrong = true
	}
	return span{low, high}
}

// isRange tells whether a byte that was read goes on as a range.
func (r *reader) isRange() bool {
	return len(r.left) > 1 && r.left[0] == '-' && r.left[1] != ']'
}

// plain reads a byte that means itself: behind a '\' it may be any.
func (r *reader) plain() byte {
	switch r.peek() {
	case '\\':
		r.next()
		fallthrough
	default:
		return r.next()
	}
}
