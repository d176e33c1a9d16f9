package osfs

import (
	"strings"

	"bole/api"
	"bole/fds"
)

// File is an open file.
type File struct {
	table  *fds.Table
	fd     int
	name   string
	closed bool
}

// OpenFile opens one.
func (f *FS) OpenFile(name string, flags int) (*File, error) {
	fd, e := f.table.Open(name, flags)
	if e != api.OK {
		return nil, pathError("open", name, e)
	}
	return &File{table: f.table, fd: fd, name: strings.Clone(name)}, nil
}

// Name is what it was opened as.
func (f *File) Name() string { return strings.Clone(f.name) }

// ifClosed is the error of an operation of a closed file; of one that is open there is none.
func (f *File) ifClosed(op string) error {
	if f.closed {
		return &PathError{op, f.Name(), ErrClosed}
	}
	return nil
}

// Read fills p; EOF at the end.
func (f *File) Read(p []byte) (int, error) {
	if err := f.ifClosed("read"); err != nil || len(p) == 0 {
		return 0, err
	}
	n := 0
	for n < len(p) {
		want := min(len(p)-n, api.MaxIO)
		s, e := f.table.Read(f.fd, want)
		if e != api.OK {
			return n, pathError("read", f.name, e)
		}
		n += copy(p[n:], s)
		if len(s) < want {
			break
		}
	}
	if n == 0 {
		return 0, EOF
	}
	return n, nil
}

// Write writes p. Of no bytes it is a Write too, which may be refused, or move the place to the end.
func (f *File) Write(p []byte) (int, error) {
	if err := f.ifClosed("write"); err != nil {
		return 0, err
	}
	for n := 0; ; {
		part := p[n:min(n+api.MaxIO, len(p))]
		if _, e := f.table.Write(f.fd, string(part)); e != api.OK {
			return n, pathError("write", f.name, e)
		}
		n += len(part)
		if n == len(p) {
			return n, nil
		}
	}
}

// Seek moves the place.
func (f *File) Seek(off int64, whence int) (int64, error) {
	if err := f.ifClosed("seek"); err != nil {
		return 0, err
	}
	place, e := f.table.Seek(f.fd, int(off), whence)
	return int64(place), pathError("seek", f.name, e)
}

// Close closes it, also where that is refused.
func (f *File) Close() error {
	if err := f.ifClosed("close"); err != nil {
		return err
	}
	f.closed = true
	return pathError("close", f.name, f.table.Close(f.fd))
}

// rest is the bytes from the place on.
func (f *File) rest() ([]byte, error) {
	var b []byte
	for {
		s, e := f.table.Read(f.fd, api.MaxIO)
		if e != api.OK {
			return nil, pathError("read", f.name, e)
		}
		b = append(b, s...)
		if len(s) < api.MaxIO {
			return b, nil
		}
	}
}

// first is the first error of a row.
func first(row ...error) error {
	for _, err := range row {
		if err != nil {
			return err
		}
	}
	return nil
}

// ReadFile reads a whole file.
func (f *FS) ReadFile(name string) ([]byte, error) {
	x, err := f.OpenFile(name, api.ReadFlag)
	if err != nil {
		return nil, err
	}
	b, err := x.rest()
	if err := first(err, x.Close()); err != nil {
		return nil, err
	}
	return b, nil
}

// WriteFile makes a file have just these bytes.
func (f *FS) WriteFile(name string, b []byte) error {
	x, err := f.OpenFile(name, api.WriteFlag|api.CreateFlag|api.TruncFlag)
	if err != nil {
		return err
	}
	if len(b) > 0 {
		_, err = x.Write(b)
	}
	return first(err, x.Close())
}
