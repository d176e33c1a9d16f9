package osfs

import "bole/api"

// ErrorOf and ErrorOfTwo are errors of any Errno: of most of them no call below is ever refused.
func ErrorOf(op, p string, e api.Errno) error { return pathError(op, p, e) }

func ErrorOfTwo(op, old, other string, e api.Errno) error { return linkError(op, old, other, e) }
