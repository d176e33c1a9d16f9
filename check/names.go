package check

import (
	"bole/api"
	"bole/path"
	"bole/slots"
)

// The Links of a directory with no directory inside it.
const dirLinks = 2

// title is a name in a directory.
type title struct {
	dir  int
	name string
}

// learnCells goes through what stands in the inodes' blocks: a directory's cells, a symbolic link's text.
func (s *search) learnCells() {
	for n, x := range s.records {
		switch x.Kind {
		case api.KindDir:
			s.learnDir(n)
		case api.KindLink:
			s.askText(n)
		}
	}
}

func (s *search) learnDir(n int) {
	for index := range s.records[n].Size / api.BlockSize {
		num, has := s.placed[place{n, index}]
		if !has {
			s.tell(api.Finding{Kind: api.FindCell, Inode: n})
			return
		}
		cells, e := slots.Read(s.block(num))
		if e != api.OK {
			s.tell(api.Finding{Kind: api.FindCell, Inode: n, Block: num})
			continue
		}
		s.cells[n] = append(s.cells[n], cells...)
		for _, c := range cells {
			s.askCell(n, c)
		}
	}
}

// askCell holds a cell of a directory against those that were asked ahead of it.
func (s *search) askCell(dir int, c api.Entry) {
	s.titles[title{dir, c.Name}]++
	if s.titles[title{dir, c.Name}] > 1 {
		s.tell(api.Finding{Kind: api.FindName, Inode: dir, Name: c.Name})
	}
	if !s.isThere(c.Inode) {
		s.tell(api.Finding{Kind: api.FindNone, Inode: dir, Name: c.Name})
		return
	}
	if s.isDir(c.Inode) && (c.Inode == api.Root || s.named[c.Inode] > 0) {
		s.tell(api.Finding{Kind: api.FindParent, Inode: c.Inode, Name: c.Name})
	}
	s.named[c.Inode]++
}

func (s *search) askText(n int) {
	if _, _, e := path.Text(s.text(n)); e != api.OK {
		s.tell(api.Finding{Kind: api.FindText, Inode: n})
	}
}

// text is an inode's bytes, zeros where it has no block.
func (s *search) text(n int) string {
	size := s.records[n].Size
	b := make([]byte, size)
	for at := 0; at < size; at += api.BlockSize {
		if num, has := s.placed[place{n, at / api.BlockSize}]; has {
			copy(b[at:], s.block(num))
		}
	}
	return string(b)
}

// learnDepths goes down from the root level by level, so that an inode is met by its least deep name first.
func (s *search) learnDepths() {
	if !s.isDir(api.Root) {
		return
	}
	s.depths[api.Root] = 1
	for level := []int{api.Root}; len(level) > 0; {
		var below []int
		for _, n := range level {
			below = append(below, s.reach(n)...)
		}
		level = below
	}
}

// reach reaches what a directory's cells name: the directories among it that weren't reached before.
func (s *search) reach(dir int) []int {
	if s.isDeep(dir) {
		return nil
	}
	var dirs []int
	for _, c := range s.cells[dir] {
		if !s.isThere(c.Inode) || s.isReached(c.Inode) {
			continue
		}
		s.depths[c.Inode] = s.depths[dir] + 1
		if s.isDir(c.Inode) {
			dirs = append(dirs, c.Inode)
		}
	}
	return dirs
}

func (s *search) isReached(n int) bool { return s.depths[n] > 0 }

// isDeep tells whether the names in a directory that is reached lie deeper than a path can say.
func (s *search) isDeep(dir int) bool { return s.depths[dir] > api.MaxParts }

func (s *search) askDepths() {
	for n := range s.records {
		if !s.isDeep(n) {
			continue
		}
		for _, c := range s.cells[n] {
			s.tell(api.Finding{Kind: api.FindDeep, Inode: n, Name: c.Name})
		}
	}
}

func (s *search) askInodes() {
	for n := 1; n < s.geo.Count; n++ {
		switch {
		case s.isOrphan(n):
			s.tell(api.Finding{Kind: api.FindOrphan, Inode: n})
		case s.isLost(n):
			s.tell(api.Finding{Kind: api.FindLost, Inode: n})
		}
		if s.isThere(n) && s.records[n].Links != s.links(n) {
			s.tell(api.Finding{Kind: api.FindLinks, Inode: n})
		}
	}
}

func (s *search) isOrphan(n int) bool {
	x := s.records[n]
	return n != api.Root && x.Kind == api.KindFile && x.Links == 0 && s.named[n] == 0
}

// isLost: the root is missed even where nothing is there.
func (s *search) isLost(n int) bool {
	return !s.isReached(n) && (n == api.Root || s.isThere(n))
}

// links is how many an inode should have.
func (s *search) links(n int) int {
	if !s.isDir(n) {
		return s.named[n]
	}
	count := dirLinks
	for _, c := range s.cells[n] {
		if s.isDir(c.Inode) {
			count++
		}
	}
	return count
}
