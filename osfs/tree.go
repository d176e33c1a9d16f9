package osfs

import (
	"strings"

	"bole/api"
	"bole/path"
)

// below is the path of a name below another path.
func below(p, name string) string {
	if strings.HasSuffix(p, "/") {
		return p + name
	}
	return p + "/" + name
}

// MkdirAll makes a directory and those above it that aren't there.
func (f *FS) MkdirAll(name string) error {
	parts, e := path.Parse(name)
	if e != api.OK {
		return pathError("mkdir", name, e)
	}
	for k := range parts {
		// Join takes all that Parse answers.
		p, _ := path.Join(parts[:k+1])
		if e := f.ensureDir(p); e != api.OK {
			return pathError("mkdir", p, e)
		}
	}
	return nil
}

// ensureDir makes a directory where nothing is.
func (f *FS) ensureDir(p string) api.Errno {
	a := f.call(api.CallStat, p)
	switch {
	case a.Err == api.ErrNone:
		return f.call(api.CallMkdir, p).Err
	case a.Err == api.OK && a.Stat.Kind != api.KindDir:
		return api.ErrNotDir
	}
	return a.Err
}

// drop takes away the name of what is of this Kind; a directory must have no names.
func (f *FS) drop(p string, kind int) error {
	call := api.CallUnlink
	if kind == api.KindDir {
		call = api.CallRmdir
	}
	return pathError("remove", p, f.call(call, p).Err)
}

// Remove takes a name away.
func (f *FS) Remove(name string) error {
	a := f.call(api.CallLstat, name)
	if a.Err != api.OK {
		return pathError("remove", name, a.Err)
	}
	return f.drop(name, a.Stat.Kind)
}

// RemoveAll takes a name away, with all that is below it.
func (f *FS) RemoveAll(name string) error {
	a := f.call(api.CallLstat, name)
	switch {
	case a.Err == api.ErrNone:
		return nil
	case a.Err != api.OK:
		return pathError("remove", name, a.Err)
	case a.Stat.Kind == api.KindDir:
		if err := f.empty(name); err != nil {
			return err
		}
	}
	return f.drop(name, a.Stat.Kind)
}

// empty takes away all that a directory has.
func (f *FS) empty(p string) error {
	a := f.call(api.CallReaddir, p)
	if a.Err != api.OK {
		return pathError("remove", p, a.Err)
	}
	for _, name := range a.Names {
		if err := f.RemoveAll(below(p, name)); err != nil {
			return err
		}
	}
	return nil
}

// Walk calls a function for a path and all below it, in the order of names.
func (f *FS) Walk(root string, fn func(path string, s api.Stat, err error) error) error {
	var visit func(p string) error
	visitDir := func(p string, s api.Stat) error {
		names, refused := f.ReadDir(p)
		if err := fn(p, s, refused); err != nil || refused != nil {
			return err
		}
		for _, name := range names {
			if err := visit(below(p, name)); err != nil {
				return err
			}
		}
		return nil
	}
	visit = func(p string) error {
		s, refused := f.Lstat(p)
		switch {
		case refused != nil:
			return unlessSkipDir(fn(p, api.Stat{}, refused))
		case s.Kind == api.KindDir:
			return unlessSkipDir(visitDir(p, s))
		}
		return fn(p, s, nil)
	}
	err := unlessSkipDir(visit(root))
	if err == SkipAll {
		return nil
	}
	return err
}

// unlessSkipDir is an error, but where it is SkipDir: what was to be skipped is skipped by then.
func unlessSkipDir(err error) error {
	if err == SkipDir {
		return nil
	}
	return err
}
