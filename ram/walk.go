package ram

import (
	"bole/api"
	"bole/path"
)

const up = ".."

// place is where a path leads: the directories from the root on, the name in the last of them ("": the path leads to that directory itself), the inode (0: there is none).
type place struct {
	chain []int
	name  string
	n     int
}

func (p place) here() int { return p.chain[len(p.chain)-1] }

func (p place) isThere() bool { return p.n != 0 }

func (p place) isRoot() bool { return p.n == api.Root }

// isTooDeep tells whether a name at the place, or one that lies so much deeper, may not be.
func (p place) isTooDeep(below int) bool { return len(p.chain)+below > api.MaxParts }

// home is the directory that has a place's name, or is to have it.
func (f *FS) home(p place) *node { return f.nodes[p.here()] }

// walk goes to a place, one component behind the other.
type walk struct {
	place
	f        *FS
	left     []string
	follow   bool // a symbolic link at the end is followed too
	followed int
}

func (f *FS) start(components []string) *walk {
	return &walk{place: place{chain: []int{api.Root}}, f: f, left: components}
}

// run takes components, those of links on the way with them, till so many are left.
func (w *walk) run(keep int) api.Errno {
	for len(w.left) > keep {
		component := w.left[0]
		w.left = w.left[1:]
		if e := w.take(component); e != api.OK {
			return e
		}
	}
	return api.OK
}

// take does what a component asks for.
func (w *walk) take(component string) api.Errno {
	if component == up {
		w.leave()
		return api.OK
	}
	n, has := w.f.home(w.place).names[component]
	if !has {
		return api.ErrNone
	}
	x := w.f.nodes[n]
	onward := len(w.left) > 0
	switch {
	case x.kind == api.KindLink && (onward || w.follow):
		return w.through(x.text)
	case !onward:
		w.name, w.n = component, n
	case x.isDir():
		w.chain = append(w.chain, n)
	default:
		return api.ErrNotDir
	}
	return api.OK
}

// leave goes back to the directory ahead; the root has none.
func (w *walk) leave() {
	if len(w.chain) > 1 {
		w.chain = w.chain[:len(w.chain)-1]
	}
}

// through follows a symbolic link: its text's components come ahead of those that are left.
func (w *walk) through(text string) api.Errno {
	if w.followed == api.MaxFollow {
		return api.ErrLoop
	}
	w.followed++
	components, top, e := path.Text(text)
	if e != api.OK {
		return e
	}
	if top {
		w.chain = []int{api.Root}
	}
	w.left = append(components, w.left...)
	return api.OK
}

// to goes to what a path names; follow: a symbolic link at its end too.
func (f *FS) to(s string, follow bool) (place, api.Errno) {
	components, e := path.Parse(s)
	if e != api.OK {
		return place{}, e
	}
	w := f.start(components)
	w.follow = follow
	if e := w.run(0); e != api.OK {
		return place{}, e
	}
	if w.name == "" {
		w.n = w.here()
	}
	return w.place, api.OK
}

// make goes to where a name is to be made or taken away.
func (f *FS) make(s string) (place, api.Errno) {
	ahead, last, e := path.Make(s)
	if e != api.OK {
		return place{}, e
	}
	if last == "" {
		return place{chain: []int{api.Root}, n: api.Root}, api.OK
	}
	// The last one is left, so that each one ahead must lead to a directory.
	w := f.start(append(ahead, last))
	if e := w.run(1); e != api.OK {
		return place{}, e
	}
	return place{w.chain, last, f.home(w.place).names[last]}, api.OK
}

// named goes to a name that is there; ifRoot: the error of the root, which has none.
func (f *FS) named(s string, ifRoot api.Errno) (place, api.Errno) {
	p, e := f.make(s)
	switch {
	case e != api.OK:
		return place{}, e
	case p.isRoot():
		return place{}, ifRoot
	case !p.isThere():
		return place{}, api.ErrNone
	}
	return p, api.OK
}

// vacant goes to where a new name may come.
func (f *FS) vacant(s string) (place, api.Errno) {
	p, e := f.make(s)
	switch {
	case e != api.OK:
		return place{}, e
	case p.isThere():
		return place{}, api.ErrExist
	case p.isTooDeep(0):
		return place{}, api.ErrTooLong
	}
	return p, api.OK
}
