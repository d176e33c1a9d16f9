package glob

import (
	"strings"

	"bole/api"
)

const (
	root     = "/"
	anyNames = "**"
)

// pathPattern is a pattern of paths that was read: what a namePattern is for bytes it is for names.
type pathPattern struct {
	parts []*namePattern
	loose places
}

func isSlash(r rune) bool { return r == '/' }

// readPaths reads a pattern of paths. (That it has no zero byte is asked of each part.)
func readPaths(text string) (*pathPattern, api.Errno) {
	if !strings.HasPrefix(text, root) || len(text) > api.MaxPath {
		return nil, api.ErrPattern
	}
	parts := strings.FieldsFunc(text, isSlash)
	if len(parts) > api.MaxParts {
		return nil, api.ErrPattern
	}
	p := &pathPattern{}
	for _, part := range parts {
		if part == anyNames {
			p.loose.put(len(p.parts))
			continue
		}
		name, e := readName(part)
		if e != api.OK {
			return nil, e
		}
		p.parts = append(p.parts, name)
	}
	return p, api.OK
}

// behind is the places that a further name of a path leads to.
func (p *pathPattern) behind(now places, name string) places {
	var from places
	for k, part := range p.parts {
		if now.has(k) && part.means(name) {
			from.put(k)
		}
	}
	return now.behind(&p.loose, &from)
}

// ends tells whether the path that has led to these places is meant.
func (p *pathPattern) ends(now places) bool { return now.has(len(p.parts)) }

// goesOn tells whether one that goes on from it may be.
func (p *pathPattern) goesOn(now places) bool {
	for k := range p.parts {
		if now.has(k) {
			return true
		}
	}
	return p.loose.has(len(p.parts))
}
