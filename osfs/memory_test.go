package osfs_test

import (
	"bytes"
	"errors"
	"fmt"
	"slices"
	"strings"
	"sync"
	"testing"
	"unsafe"

	"bole/api"
	"bole/osfs"
)

// loose is a text whose bytes can be changed behind the back of who has it.
func loose(s string) (string, []byte) {
	b := []byte(s)
	return unsafe.String(unsafe.SliceData(b), len(b)), b
}

func spoil(b []byte) {
	for i := range b {
		b[i] = '#'
	}
}

// spoilText writes over the bytes of a text that was answered.
func spoilText(s string) {
	if s != "" {
		spoil(unsafe.Slice(unsafe.StringData(s), len(s)))
	}
}

// W3: bytes and texts that are handed in are neither changed nor kept, the room behind them neither.
func TestArgumentsAreNotKept(t *testing.T) {
	b := fresh(t, 256)
	name, n := loose("/name of it")
	none, no := loose("/not there")
	data := pattern(2000)
	room := append(bytes.Clone(data), rep("#", 500)...)
	given := room[:2000:2200]
	good(t, "WriteFile", b.WriteFile(name, given))
	x := b.open(name, rw|behind)
	if k, err := x.Write(given); k != 2000 || err != nil {
		t.Errorf("P22.4: %d, %v", k, err)
	}
	_, err := b.Stat(none)
	two := b.Rename(none, name)
	closed := b.open(name, r)
	closed.Close()
	again := closed.Close()
	if string(n) != "/name of it" || string(no) != "/not there" || !bytes.Equal(room[:2000], data) || strings.Trim(string(room[2000:]), "#") != "" {
		t.Errorf("W3: what was handed in has changed")
	}
	spoil(n)
	spoil(no)
	spoil(room)
	if x.Name() != "/name of it" {
		t.Errorf("W3: the name that was handed in is kept: %q", x.Name())
	}
	fails(t, err, "stat", "/not there", 160)
	failsTwo(t, two, "rename", "/not there", "/name of it", 160)
	isClosed(t, again, "close", "/name of it")
	b.holds("/name of it", append(bytes.Clone(data), data...))
	b.readsAll("/name of it", append(bytes.Clone(data), data...))
	if _, err := x.Read(nil); err != nil {
		t.Errorf("P22.3: %v", err)
	}
	fails(t, func() error { _, err := b.open("/name of it", r).Write(nil); return err }(), "write", "/name of it", 212)
}

// P22.12, W3: bytes and names that were answered, written over with their spare room, change neither other answers nor the file system.
func TestAnswersAreNew(t *testing.T) {
	b := fresh(t, 512).lays("/dir/", "/dir/one=1", "/dir/two=2", "/dir/three=3")
	data := b.long("/f", 2*api.MaxIO+700)
	for _, p := range []string{"/f", "/dir/one", "/dir/two"} {
		one, _ := b.ReadFile(p)
		other, _ := b.ReadFile(p)
		kept := bytes.Clone(other)
		spoil(one[:cap(one)])
		third, _ := b.ReadFile(p)
		if !bytes.Equal(other, kept) || !bytes.Equal(third, kept) {
			t.Errorf("P22.12: bytes that were answered, written over, change others")
		}
	}
	b.holds("/f", data)

	want := []string{"one", "three", "two"}
	one, _ := b.ReadDir("/dir")
	other, _ := b.ReadDir("/dir")
	for i := range one {
		spoilText(one[i])
	}
	one = one[:cap(one)]
	for i := range one {
		one[i] = "written over"
	}
	third, _ := b.ReadDir("/dir")
	if !slices.Equal(other, want) || !slices.Equal(third, want) {
		t.Errorf("P22.12: names that were answered, written over, change others: %q, %q", other, third)
	}

	x := b.open("/dir/one", r)
	spoilText(x.Name())
	if x.Name() != "/dir/one" {
		t.Errorf("P22.12: a name that was answered, written over, changes the file's: %q", x.Name())
	}
	for _, ask := range []func() error{
		func() error { _, err := b.Stat("/none there"); return err },
		func() error { _, err := x.Write(nil); return err },
		func() error { _, err := b.ReadFile("/none there"); return err },
		func() error { return b.MkdirAll("/dir/one/more") },
		func() error { return b.RemoveAll("/dir/one/more") },
	} {
		one, other := ask(), ask()
		var e, o *osfs.PathError
		if !errors.As(one, &e) || !errors.As(other, &o) || e == o {
			t.Fatalf("P22.12: two errors are one: %v", one)
		}
		text := strings.Clone(other.Error())
		spoilText(e.Path)
		e.Op, e.Err = "written over", nil
		if other.Error() != text || ask().Error() != text {
			t.Errorf("P22.12: an error, written over, changes others: %v", other)
		}
	}
	good(t, "Close", x.Close())
	two := []error{x.Close(), x.Close()}
	spoilText(two[0].(*osfs.PathError).Path)
	isClosed(t, two[1], "close", "/dir/one")
	isClosed(t, x.Close(), "close", "/dir/one")
}

// P22.12: what was answered stays as it was when files and names change.
func TestAnswersStay(t *testing.T) {
	b := fresh(t, 256).lays("/dir/", "/dir/one=1", "/dir/two=2")
	b.long("/f", 2000)
	data, _ := b.ReadFile("/f")
	names, _ := b.ReadDir("/dir")
	st, _ := b.Stat("/f")
	x := b.open("/f", rw)
	p := make([]byte, 1000)
	x.Read(p)
	wrote(t, x, []byte(rep("X", 3000)))
	good(t, "WriteFile", b.WriteFile("/f", []byte(rep("Y", 3000))))
	good(t, "RemoveAll", b.RemoveAll("/dir"))
	good(t, "Rename", b.Rename("/f", "/g"))
	if !bytes.Equal(data, pattern(2000)) || !bytes.Equal(p, pattern(1000)) || !slices.Equal(names, []string{"one", "two"}) || st.Size != 2000 {
		t.Errorf("P22.12: what was answered has changed")
	}
}

// W5: what is answered hangs on nothing else: many file systems at one time, none sees another; two of one table are the same.
func TestManyAtOnce(t *testing.T) {
	image := fresh(t, 256).lays(wood()...).d.Image()
	told := func(x *desk) string {
		var s strings.Builder
		note := func(what ...any) { fmt.Fprintln(&s, what...) }
		x.Walk("/", func(p string, st api.Stat, err error) error {
			note(p, st, err)
			return x.WriteFile(p+"+", []byte(p))
		})
		f, err := x.OpenFile("/d/a", rw|behind)
		note(err)
		note(f.Write(pattern(40000)))
		note(x.MkdirAll("/d/a/b"), x.MkdirAll("/q/r"), x.RemoveAll("/d/d"), x.Remove("/d"), x.Rename("/a", "/z"))
		note(f.Seek(-5, api.FromEnd))
		note(f.Close(), f.Close())
		note(x.ReadDir("/d"))
		return s.String() + string(x.d.Image())
	}
	want := told(opened(t, image))
	answers := make([]string, 8)
	var all sync.WaitGroup
	for i := range answers {
		x := opened(t, image)
		all.Go(func() { answers[i] = told(x) })
	}
	all.Wait()
	for _, s := range answers {
		if s != want {
			t.Errorf("W5: a file system beside others is another one")
		}
	}
	b := opened(t, image)
	other := osfs.New(b.table)
	good(t, "WriteFile", b.WriteFile("/new", []byte("by one")))
	if got, err := other.ReadFile("/new"); string(got) != "by one" || err != nil {
		t.Errorf("P22.6: over one table another one reads %q, %v", got, err)
	}
	if got, err := b.ReadFile("/a"); string(got) != "1" || err != nil {
		t.Errorf("P22.6: %q, %v", got, err)
	}
}
