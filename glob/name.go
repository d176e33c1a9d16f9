package glob

// span is all bytes from low to high.
type span struct{ low, high byte }

// set is what one byte of a text may be: in one of the spans; turned: in none of them.
type set struct {
	turned bool
	spans  []span
}

func (s *set) means(c byte) bool {
	for _, x := range s.spans {
		if x.low <= c && c <= x.high {
			return !s.turned
		}
	}
	return s.turned
}

// namePattern is a pattern of a name that was read.
type namePattern struct {
	ones  []set  // a byte of the text each
	loose places // any bytes may stand here
}

// from is the places from which a byte leads on.
func (p *namePattern) from(c byte) *places {
	s := new(places)
	for k := range p.ones {
		if p.ones[k].means(c) {
			s.put(k)
		}
	}
	return s
}

func (p *namePattern) means(text string) bool {
	// So a long text asks the pieces once for each byte there is, not for each of its own.
	var known [256]*places
	now := front()
	for i := range len(text) {
		c := text[i]
		if known[c] == nil {
			known[c] = p.from(c)
		}
		now = now.behind(&p.loose, known[c])
		if now == (places{}) {
			return false
		}
	}
	return now.has(len(p.ones))
}
