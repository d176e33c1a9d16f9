package osfs_test

import (
	"errors"
	"slices"
	"testing"

	"bole/api"
	"bole/osfs"
)

// The chapter's examples 1 to 4, one behind the other on one file system, as they stand there.
func TestExamples(t *testing.T) {
	b := fresh(t, 128)

	// 1.
	_, err := b.ReadFile("/a")
	fails(t, err, "open", "/a", 160)
	if err.Error() != "open /a: E160" || !errors.Is(err, osfs.ErrNotExist) || !errors.Is(err, api.ErrNone) || errors.Is(err, osfs.ErrExist) {
		t.Errorf("P22.1: %v", err)
	}
	err = b.Mkdir("/")
	fails(t, err, "mkdir", "/", 150)
	if err.Error() != "mkdir /: E150" || !errors.Is(err, osfs.ErrExist) {
		t.Errorf("P22.1: %v", err)
	}
	err = b.Rename("/x", "/y")
	failsTwo(t, err, "rename", "/x", "/y", 160)
	if err.Error() != "rename /x /y: E160" {
		t.Errorf("P22.1: %v", err)
	}

	// 2.
	good(t, "WriteFile", b.WriteFile("/a", []byte("hello")))
	if got, err := b.ReadFile("/a"); string(got) != "hello" || err != nil {
		t.Errorf("P22.6: %q, %v", got, err)
	}
	x := b.open("/a", api.ReadFlag)
	if x.Name() != "/a" {
		t.Errorf("P22.2: Name: %q", x.Name())
	}
	p := make([]byte, 9)
	for _, c := range []struct {
		want int
		text string
		err  error
	}{{3, "hel", nil}, {9, "lo", nil}, {9, "", osfs.EOF}, {0, "", nil}} {
		if n, err := x.Read(p[:c.want]); n != len(c.text) || string(p[:n]) != c.text || err != c.err {
			t.Errorf("P22.3: Read of %d: %d, %v", c.want, n, err)
		}
	}
	if n, err := x.Seek(1, api.FromStart); n != 1 || err != nil {
		t.Errorf("P22.5: Seek: %d, %v", n, err)
	}
	n, err := x.Write([]byte("z"))
	fails(t, err, "write", "/a", 212)
	if n != 0 || err.Error() != "write /a: E212" || !errors.Is(err, osfs.ErrInvalid) {
		t.Errorf("P22.4: %d, %v", n, err)
	}
	good(t, "Close", x.Close())
	isClosed(t, x.Close(), "close", "/a")
	n, err = x.Read(p[:1])
	isClosed(t, err, "read", "/a")
	if n != 0 {
		t.Errorf("P22.3: a closed file: %d", n)
	}

	// 3.
	good(t, "MkdirAll", b.MkdirAll("/d/e/g"))
	good(t, "MkdirAll again", b.MkdirAll("/d/e/g"))
	fails(t, b.MkdirAll("/a/b"), "mkdir", "/a", 161)
	good(t, "MkdirAll of the root", b.MkdirAll("/"))
	fails(t, b.MkdirAll("d"), "mkdir", "d", 1)

	// 4.
	fails(t, b.Remove("/d"), "remove", "/d", 171)
	good(t, "RemoveAll", b.RemoveAll("/d"))
	good(t, "RemoveAll again", b.RemoveAll("/d"))
	b.stands("/a=hello")
	fails(t, b.RemoveAll("/"), "remove", "/", 172)
	b.stands()
	b.numbers(0)
	b.right("the examples")
}

// The chapter's example 5.
func TestExampleOfAWalk(t *testing.T) {
	b := fresh(t, 128).lays("/d/", "/d/b=", "/d/c/", "/d/c/x=", "/e=")
	for _, c := range []struct {
		at   string
		says error
		want []string
		err  error
	}{
		{"", nil, []string{"/", "/d", "/d/b", "/d/c", "/d/c/x", "/e"}, nil},
		{"/d", osfs.SkipDir, []string{"/", "/d", "/e"}, nil},
		{"/d/b", osfs.SkipDir, []string{"/", "/d", "/d/b", "/e"}, nil},
		{"/d/b", osfs.SkipAll, []string{"/", "/d", "/d/b"}, nil},
		{"/d", errOwn, []string{"/", "/d"}, errOwn},
	} {
		var got []string
		err := b.Walk("/", func(p string, s api.Stat, err error) error {
			got = append(got, p)
			if p == c.at {
				return c.says
			}
			return nil
		})
		if !slices.Equal(got, c.want) || err != c.err {
			t.Errorf("P22.10: %v at %q: %q, %v", c.says, c.at, got, err)
		}
	}
	calls := 0
	err := b.Walk("/q", func(p string, s api.Stat, err error) error {
		calls++
		fails(t, err, "lstat", "/q", 160)
		if p != "/q" || s != (api.Stat{}) {
			t.Errorf("P22.10: %q, %+v", p, s)
		}
		return nil
	})
	if calls != 1 || err != nil {
		t.Errorf("P22.10: %d calls, %v", calls, err)
	}
}
