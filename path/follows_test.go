package path_test

import (
	"math/rand"
	"slices"
	"strings"
	"testing"

	"bole/api"
	"bole/path"
)

// right are texts that Parse takes.
func right(t *testing.T) []string {
	r := rand.New(rand.NewSource(7))
	l := samples()
	for range 5000 {
		l = append(l, anyText(r))
	}
	l = slices.DeleteFunc(l, func(s string) bool {
		_, e := plainParse(s)
		return e != api.OK
	})
	if len(l) < 1000 {
		t.Fatalf("%d right texts only", len(l))
	}
	return l
}

// anyParts is a list that Join takes.
func anyParts(r *rand.Rand) []string {
	l := make([]string, r.Intn(33))
	for i := range l {
		b := make([]byte, 1+r.Intn(27))
		for k := range b {
			b[k] = "abc...\x01\x80\xff "[r.Intn(10)]
		}
		l[i] = string(b)
		if l[i] == "." || r.Intn(5) == 0 {
			l[i] = ".."
		}
	}
	return l
}

// P13.7: Parse of Join(parts) is parts.
func TestParseOfJoin(t *testing.T) {
	r := rand.New(rand.NewSource(1))
	lists := [][]string{nil, {"a"}, {".."}, {"..", ".."}, {"a", "..", "..."}, many("..", 32), many(rep("x", 27), 32)}
	for range 3000 {
		lists = append(lists, anyParts(r))
	}
	for _, l := range lists {
		s, e := path.Join(l)
		if e != api.OK {
			t.Fatalf("P13.4: Join(%s): %d", shorts(l), e)
		}
		wantParse(t, s, l, api.OK)
		wantText(t, s, l, true, api.OK)
	}
}

// P13.7: Join of Parse(s) has the components of s, and Parse takes it; it is a text of its own components' Join again.
func TestJoinOfParse(t *testing.T) {
	for _, s := range right(t) {
		l, _ := path.Parse(s)
		j, e := path.Join(l)
		if e != api.OK || len(j) > len(s) {
			t.Errorf("P13.7: Join of Parse(%s) = %s, %d", short(s), short(j), e)
		}
		wantParse(t, j, l, api.OK)
		if strings.Contains(j, "//") || strings.Contains(j+"/", "/./") || j != "/" && strings.HasSuffix(j, "/") {
			t.Errorf("P13.7: Join of Parse(%s) = %s is not the shortest", short(s), short(j))
		}
	}
}

// P13.7: of all short texts that have the same components Join of them is the shortest.
func TestShortest(t *testing.T) {
	shortest := map[string]string{}
	for _, s := range small("/.ab", 8) {
		l, e := path.Parse(s)
		if e != api.OK {
			continue
		}
		key := strings.Join(l, "/")
		if least, is := shortest[key]; !is || len(s) < len(least) {
			shortest[key] = s
		}
	}
	for key, least := range shortest {
		var l []string
		if key != "" {
			l = strings.Split(key, "/")
		}
		wantJoin(t, l, least, api.OK)
	}
}

// P13.7: Clean of Clean(s) is Clean(s), without '..'; it is Join of its own components.
func TestCleanOfClean(t *testing.T) {
	for _, s := range right(t) {
		c, e := path.Clean(s)
		if e != api.OK {
			t.Fatalf("P13.5: Clean(%s): %d", short(s), e)
		}
		wantClean(t, c, c, api.OK)
		l, e := path.Parse(c)
		if e != api.OK || slices.Contains(l, "..") {
			t.Errorf("P13.7: Clean(%s) = %s: %d", short(s), short(c), e)
		}
		wantJoin(t, l, c, api.OK)
		for _, p := range l {
			wantName(t, p, true)
		}
	}
}

// P13.7: a slash more behind a slash, or '.' and a slash there, changes nothing while the text stays within 1024 bytes; one byte more is too long.
func TestSlashMore(t *testing.T) {
	for _, s := range right(t) {
		l, _ := path.Parse(s)
		step := 1 + len(s)/40
		for at := 0; at < len(s); at += step {
			if s[at] != '/' {
				continue
			}
			for _, more := range []string{"/", "./", "//", ".//./"} {
				with := s[:at+1] + more + s[at+1:]
				if len(with) <= 1024 {
					wantParse(t, with, l, api.OK)
				} else {
					wantParse(t, with, nil, api.ErrTooLong)
				}
			}
		}
		room := 1024 - len(s)
		wantParse(t, rep("/", room)+s, l, api.OK)
		wantParse(t, rep("/", room+1)+s, nil, api.ErrTooLong)
	}
}

// P13.7: what follows of Make: its components and the last one are those of Parse, and the last one is a name.
func TestMakeOfRight(t *testing.T) {
	for _, s := range right(t) {
		ahead, last, e := path.Make(s)
		if e != api.OK {
			continue
		}
		l := slices.Clone(ahead)
		if last != "" {
			l = append(l, last)
			wantName(t, last, true)
		}
		wantParse(t, s, l, api.OK)
	}
}

// P13.6, P13.7: a text is a name just if it is one component of a path that Make takes, and the path's only one.
func TestNameIsOneComponent(t *testing.T) {
	for _, s := range append(samples(), small("/.a\x00\xff", 5)...) {
		ahead, last, e := path.Make("/" + s)
		wantName(t, s, e == api.OK && len(ahead) == 0 && last == s && s != "")
	}
}
