package path_test

import (
	"fmt"
	"slices"
	"strings"
	"testing"

	"bole/api"
	"bole/path"
)

func rep(s string, n int) string { return strings.Repeat(s, n) }

// many is a list of n times the same text.
func many(s string, n int) []string { return slices.Repeat([]string{s}, n) }

// short is a text as a message tells it.
func short(s string) string {
	if len(s) > 80 {
		return fmt.Sprintf("%q.. (%d bytes) ..%q", s[:40], len(s), s[len(s)-20:])
	}
	return fmt.Sprintf("%q", s)
}

func shorts(l []string) string {
	if len(l) > 40 {
		return fmt.Sprintf("%d parts, %s ahead", len(l), short(l[0]))
	}
	return fmt.Sprintf("%q", l)
}

// plainPieces says the chapter's word: a row of bytes begins where no byte of a row stands ahead, and goes on as far as it can.
func plainPieces(s string) []string {
	var l []string
	for i := range len(s) {
		if s[i] == '/' || i > 0 && s[i-1] != '/' {
			continue
		}
		end := i
		for end < len(s) && s[end] != '/' {
			end++
		}
		l = append(l, s[i:end])
	}
	return l
}

func plainComponents(s string) []string {
	return slices.DeleteFunc(plainPieces(s), func(p string) bool { return p == "." })
}

func plainZero(s string) bool { return slices.Contains([]byte(s), 0) }

func plainLong(s string) bool {
	l := plainComponents(s)
	for _, c := range l {
		if len(c) > 27 {
			return true
		}
	}
	return len(s) > 1024 || len(l) > 32
}

func plainParse(s string) ([]string, api.Errno) {
	if len(s) == 0 || s[0] != '/' || plainZero(s) {
		return nil, api.ErrInval
	}
	if plainLong(s) {
		return nil, api.ErrTooLong
	}
	return plainComponents(s), api.OK
}

func plainText(s string) ([]string, bool, api.Errno) {
	if len(s) == 0 || plainZero(s) {
		return nil, false, api.ErrInval
	}
	if plainLong(s) {
		return nil, false, api.ErrTooLong
	}
	return plainComponents(s), s[0] == '/', api.OK
}

func plainMake(s string) ([]string, string, api.Errno) {
	p := plainPieces(s)
	if n := len(p); n > 0 && (p[n-1] == "." || p[n-1] == "..") {
		return nil, "", api.ErrInval
	}
	l, e := plainParse(s)
	if e != api.OK || len(l) == 0 {
		return nil, "", e
	}
	return l[:len(l)-1], l[len(l)-1], api.OK
}

func plainJoin(parts []string) (string, api.Errno) {
	e, s := api.OK, ""
	if len(parts) > 32 {
		e = api.ErrTooLong
	}
	for _, p := range parts {
		if len(p) > 27 {
			e = api.ErrTooLong
		}
		s += "/" + p
	}
	for _, p := range parts {
		if p == "" || p == "." || plainZero(p) || slices.Contains([]byte(p), '/') {
			e = api.ErrInval
		}
	}
	switch {
	case e != api.OK:
		return "", e
	case s == "":
		s = "/"
	}
	return s, e
}

// plainClean strikes components out where they stand: each '..' itself, and the nearest one ahead of it that is left.
func plainClean(s string) (string, api.Errno) {
	l, e := plainParse(s)
	if e != api.OK {
		return "", e
	}
	struck := make([]bool, len(l))
	for i, c := range l {
		if c != ".." {
			continue
		}
		struck[i] = true
		for k := i - 1; k >= 0; k-- {
			if !struck[k] {
				struck[k] = true
				break
			}
		}
	}
	left := "/"
	for i, c := range l {
		if !struck[i] {
			left = strings.TrimSuffix(left, "/") + "/" + c
		}
	}
	return left, api.OK
}

func plainName(s string) bool {
	return slices.Equal(plainPieces(s), []string{s}) && len(s) <= 27 && !plainZero(s) && s != "." && s != ".."
}

func wantParse(t *testing.T, s string, want []string, err api.Errno) {
	t.Helper()
	if l, e := path.Parse(s); !slices.Equal(l, want) || e != err {
		t.Errorf("P13.1: Parse(%s) = %s, %d, want %s, %d", short(s), shorts(l), e, shorts(want), err)
	}
}

func wantText(t *testing.T, s string, want []string, top bool, err api.Errno) {
	t.Helper()
	if l, is, e := path.Text(s); !slices.Equal(l, want) || is != top || e != err {
		t.Errorf("P13.2: Text(%s) = %s, %v, %d, want %s, %v, %d", short(s), shorts(l), is, e, shorts(want), top, err)
	}
}

func wantMake(t *testing.T, s string, want []string, last string, err api.Errno) {
	t.Helper()
	if l, end, e := path.Make(s); !slices.Equal(l, want) || end != last || e != err {
		t.Errorf("P13.3: Make(%s) = %s, %q, %d, want %s, %q, %d", short(s), shorts(l), end, e, shorts(want), last, err)
	}
}

func wantJoin(t *testing.T, parts []string, want string, err api.Errno) {
	t.Helper()
	if s, e := path.Join(parts); s != want || e != err {
		t.Errorf("P13.4: Join(%s) = %s, %d, want %s, %d", shorts(parts), short(s), e, short(want), err)
	}
}

func wantClean(t *testing.T, s, want string, err api.Errno) {
	t.Helper()
	if c, e := path.Clean(s); c != want || e != err {
		t.Errorf("P13.5: Clean(%s) = %s, %d, want %s, %d", short(s), short(c), e, short(want), err)
	}
}

func wantName(t *testing.T, s string, want bool) {
	t.Helper()
	if is := path.Name(s); is != want {
		t.Errorf("P13.6: Name(%s) = %v, want %v", short(s), is, want)
	}
}

// wantPlain holds all calls that take a text against the chapter's words said plainly, and Join of the text as a part.
func wantPlain(t *testing.T, s string) {
	t.Helper()
	l, e := plainParse(s)
	wantParse(t, s, l, e)
	l, top, e := plainText(s)
	wantText(t, s, l, top, e)
	l, last, e := plainMake(s)
	wantMake(t, s, l, last, e)
	c, e := plainClean(s)
	wantClean(t, s, c, e)
	wantName(t, s, plainName(s))
	j, e := plainJoin([]string{s})
	wantJoin(t, []string{s}, j, e)
}

// wantError holds that every call that takes a path answers this error of it.
func wantError(t *testing.T, s string, err api.Errno) {
	t.Helper()
	wantParse(t, s, nil, err)
	wantMake(t, s, nil, "", err)
	wantClean(t, s, "", err)
}

// small gives all texts of at most so many of these bytes.
func small(letters string, longest int) []string {
	l := []string{""}
	for from := 0; len(l[from]) < longest; from++ {
		for i := range len(letters) {
			l = append(l, l[from]+letters[i:i+1])
		}
	}
	return l
}

// samples are texts about every edge that the chapter names.
func samples() []string {
	l := small("/.a\x00", 5)
	for _, n := range []int{1, 2, 26, 27, 28, 29, 300, 1023, 1024, 1025, 1026} {
		for _, s := range []string{"/", "x", ".", "\xff", "\x00"} {
			l = append(l, rep(s, n), "/"+rep(s, n), "/"+rep(s, n-1), rep(s, n)+"/", "/a/"+rep(s, n)+"/b", rep(s, n)+"/..", "/"+rep(s, n)+"/.")
		}
	}
	for _, n := range []int{1, 31, 32, 33, 34, 100, 340, 341, 342, 511, 512, 513} {
		for _, s := range []string{"x", "..", ".", "x/.", "./..", "...", "x//", "\x80"} {
			l = append(l, rep("/"+s, n), rep(s+"/", n), "//"+rep(s+"//", n), rep("/"+s, n)+"/.", rep("/"+s, n)+"/..", rep("/"+s, n)+"/y", rep("/"+s, n)+"\x00")
		}
	}
	return l
}
