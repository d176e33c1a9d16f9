package ram

import (
	"slices"

	"bole/api"
)

// change is a call under way: what it has done to the tree, as steps that undo it.
type change struct {
	undo []func()
}

// back undoes all, the last one first.
func (c *change) back() {
	for _, step := range slices.Backward(c.undo) {
		step()
	}
}

// set lets a part of the tree be another one.
func set[T any](c *change, at *T, v T) {
	old := *at
	c.undo = append(c.undo, func() { *at = old })
	*at = v
}

// remember writes down what a map has at a key.
func remember[K comparable, V any](c *change, m map[K]V, k K) {
	old, had := m[k]
	c.undo = append(c.undo, func() {
		if had {
			m[k] = old
		} else {
			delete(m, k)
		}
	})
}

func put[K comparable, V any](c *change, m map[K]V, k K, v V) {
	remember(c, m, k)
	m[k] = v
}

func remove[K comparable, V any](c *change, m map[K]V, k K) {
	remember(c, m, k)
	delete(m, k)
}

// whole makes a change; if that is refused, or leaves a tree that takes more blocks than there are, all of it is undone.
func (f *FS) whole(do func(c *change) (int, api.Errno)) (n int, e api.Errno) {
	c := &change{}
	defer func() {
		if e != api.OK {
			n = 0
			c.back()
		}
	}()
	n, e = do(c)
	if e == api.OK && f.free() < 0 {
		e = api.ErrSpace
	}
	return n, e
}
