package osfs

import (
	"errors"
	"strings"

	"bole/api"
)

// What errors are, told apart by errors.Is.
var (
	ErrNotExist = errors.New("osfs: not there")
	ErrExist    = errors.New("osfs: there already")
	ErrInvalid  = errors.New("osfs: may not be")
	ErrNoRoom   = errors.New("osfs: no room")
	ErrClosed   = errors.New("osfs: closed")
	EOF         = errors.New("osfs: end")
	SkipDir     = errors.New("osfs: skip this directory")
	SkipAll     = errors.New("osfs: skip all")
)

// PathError is an error of a call with a path.
type PathError struct {
	Op   string
	Path string
	Err  error
}

// Error tells it.
func (e *PathError) Error() string { return e.Op + " " + e.Path + ": " + textOf(e.Err) }

// Unwrap is what it is.
func (e *PathError) Unwrap() error { return e.Err }

// LinkError is an error of a call with two.
type LinkError struct {
	Op  string
	Old string
	New string
	Err error
}

// Error tells it.
func (e *LinkError) Error() string { return e.Op + " " + e.Old + " " + e.New + ": " + textOf(e.Err) }

// Unwrap is what it is.
func (e *LinkError) Unwrap() error { return e.Err }

// textOf is an error's text: who puts an error together by hand may have left it out.
func textOf(err error) string {
	if err == nil {
		return ""
	}
	return err.Error()
}

// meanings is what an Errno is beside itself; one that isn't there is nothing more.
func meanings() map[api.Errno]error {
	return map[api.Errno]error{
		api.ErrNone:     ErrNotExist,
		api.ErrExist:    ErrExist,
		api.ErrNotEmpty: ErrExist,
		api.ErrInval:    ErrInvalid,
		api.ErrTooLong:  ErrInvalid,
		api.ErrBig:      ErrInvalid,
		api.ErrAccess:   ErrInvalid,
		api.ErrSpace:    ErrNoRoom,
		api.ErrFds:      ErrNoRoom,
		api.ErrLinks:    ErrNoRoom,
		api.ErrFd:       ErrClosed,
	}
}

// inside is what an error of this package wraps: an Errno that knows what it is.
type inside struct{ api.Errno }

// Is tells errors.Is whether it is the target.
func (x inside) Is(target error) bool {
	if e, ok := target.(api.Errno); ok {
		return e == x.Errno
	}
	meaning, ok := meanings()[x.Errno]
	return ok && meaning == target
}

// Unwrap is the Errno, for errors.As to find.
func (x inside) Unwrap() error { return x.Errno }

// pathError is an error of an operation; of OK it is none. The path is a text of its own: what was handed in isn't kept.
func pathError(op, p string, e api.Errno) error {
	if e == api.OK {
		return nil
	}
	return &PathError{op, strings.Clone(p), inside{e}}
}

// linkError is an error of two paths; of OK it is none.
func linkError(op, old, other string, e api.Errno) error {
	if e == api.OK {
		return nil
	}
	return &LinkError{op, strings.Clone(old), strings.Clone(other), inside{e}}
}
