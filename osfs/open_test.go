package osfs_test

import (
	"fmt"
	"math"
	"testing"

	"bole/api"
	"bole/osfs"
)

// grove is a tree with things of each kind.
func grove(t *testing.T) *desk {
	return fresh(t, 256).lays("/d/", "/d/e/", "/f=bytes of f", "/d/g=bytes of g", "/l>f", "/ld>d", "/gone>nowhere", "/round>round", "/empty=")
}

// feel is what can be seen of an open file by what it does: whether it reads, writes, and where it writes.
func feel(b *desk, x *osfs.File) string {
	var s string
	p := make([]byte, 20)
	n, err := x.Read(p)
	s += fmt.Sprintf("read %q %v; ", p[:n], err)
	k, err := x.Seek(3, api.FromStart)
	s += fmt.Sprintf("at %d %v; ", k, err)
	n, err = x.Write([]byte("!!"))
	s += fmt.Sprintf("write %d %v; ", n, err)
	return s + b.tree("/")
}

// feelBelow is the same by the calls below.
func feelBelow(b *desk, fd int, name string) string {
	text := func(op string, e api.Errno) string {
		if e == api.OK {
			return "<nil>"
		}
		return fmt.Sprintf("%s %s: E%d", op, name, int(e))
	}
	var s string
	data, e := b.table.Read(fd, 20)
	end := text("read", e)
	if e == api.OK && data == "" {
		end = "osfs: end"
	}
	s += fmt.Sprintf("read %q %v; ", data, end)
	k, e := b.table.Seek(fd, 3, api.FromStart)
	s += fmt.Sprintf("at %d %v; ", k, text("seek", e))
	n, e := b.table.Write(fd, "!!")
	s += fmt.Sprintf("write %d %v; ", n, text("write", e))
	return s + b.tree("/")
}

// P22.2: with all flags that there are, and more, of paths that lead to each kind of thing: as Open below.
func TestOpenFile(t *testing.T) {
	image := grove(t).d.Image()
	flags := []int{math.MinInt, -64, -2, -1, 64, 65, 127, 1 << 32, 1<<32 + 1, math.MaxInt}
	for k := range 64 {
		flags = append(flags, k)
	}
	seen := map[api.Errno]int{}
	for _, name := range []string{"/f", "//d/./g/", "/l", "/ld/g", "/new", "/d/e/new", "/d", "/", "/ld", "/gone", "/round", "/f/x", "/no/x", "/d/..", "/empty", "", "f", "/" + rep("x", 28)} {
		for _, k := range flags {
			b, twin := opened(t, image), opened(t, image)
			x, err := b.OpenFile(name, k)
			fd, e := twin.table.Open(name, k)
			seen[e]++
			if e != api.OK {
				fails(t, err, "open", name, e)
				if x != nil {
					t.Errorf("W2: OpenFile(%q, %d): a file beside %v", name, k, err)
				}
				b.numbers(0)
				continue
			}
			if x == nil || err != nil {
				t.Errorf("P22.2: OpenFile(%q, %d): %v", name, k, err)
				continue
			}
			if x.Name() != name {
				t.Errorf("P22.2: OpenFile(%q, %d): its name is %q", name, k, x.Name())
			}
			if got, want := feel(b, x), feelBelow(twin, fd, name); got != want {
				t.Errorf("P22.2: OpenFile(%q, %d): %s, want %s", name, k, got, want)
			}
			b.numbers(1)
		}
	}
	for _, e := range []api.Errno{api.OK, api.ErrInval, api.ErrNone, api.ErrIsDir, api.ErrExist, api.ErrLoop, api.ErrNotDir, api.ErrTooLong} {
		if seen[e] == 0 {
			t.Errorf("no OpenFile was to answer %d", e)
		}
	}
}

// P22.2: of two faults the one that the layers below ask first.
func TestOpenFileTwoFaults(t *testing.T) {
	b := grove(t)
	open := func(name string, flags int, e api.Errno) {
		t.Helper()
		_, err := b.OpenFile(name, flags)
		fails(t, err, "open", name, e)
	}
	open("", 0, 1)
	open("/"+rep("x", 28), 0, 1)
	open("/none", 64, 1)
	open("/d", trunc, 1)
	open("a\x00", r, 1)
	open("/"+rep("x", 28)+"/..", w|create, 1)
	open("/"+rep("x", 28)+"/..", w, 130)
	open("/none/x/"+rep("x", 28), r, 130)
	open("/none/x", w|create|excl, 160)
	open("/f/x", w|create|excl, 161)
	open("/", w|create|excl, 150)
	open("/d", w|create|excl, 150)
	open("/d", w|create, 170)
	open("/d", w|trunc, 170)
	open("/round", rw|create|excl, 150)
	open("/round", rw|create, 162)
	open("/gone", rw|create|trunc, 160)
	for range 16 {
		b.open("/f", r)
	}
	open("/f", r, 211)
	open("/f", w|trunc, 211)
	open("/none", r, 211)
	open("", r, 211)
	open("/d", r, 211)
	open("/f", 0, 1)
	open("", -1, 1)
	b.d.Crash(nil)
	open("/f", r, 211)
	open("/f", 0, 1)
	b.numbers(16)
}

// P22.2: of the power that is out, or goes while a file is made: ErrDown, behind the flags and the path's text.
func TestOpenFileDown(t *testing.T) {
	b := grove(t)
	b.d.Arm(api.Crash{At: 3})
	x, err := b.OpenFile("/new", rw|create)
	fails(t, err, "open", "/new", 30)
	y, err := b.OpenFile("/f", r)
	fails(t, err, "open", "/f", 30)
	z, err := b.OpenFile("f", r)
	fails(t, err, "open", "f", 1)
	if x != nil || y != nil || z != nil {
		t.Errorf("W2: a file beside an error")
	}
	b.numbers(0)
}

// P22.2: Name is what it was opened as, whatever becomes of the name, and of the file.
func TestName(t *testing.T) {
	b := grove(t)
	x, y, z := b.open("//l/./", rw), b.open("/d/e/../g", r), b.open("/made", w|create|excl)
	good(t, "Rename", b.Rename("/f", "/other"))
	good(t, "Remove", b.Remove("/d/g"))
	for range 2 {
		if x.Name() != "//l/./" || y.Name() != "/d/e/../g" || z.Name() != "/made" {
			t.Errorf("P22.2: the names are %q, %q, %q", x.Name(), y.Name(), z.Name())
		}
		x.Close()
		y.Close()
		z.Close()
	}
	b.right("all Closes")
}

// P22.2: each OpenFile has a place of its own; what one writes the other one reads at once, also where the name is gone.
func TestTwoOpenFiles(t *testing.T) {
	b := grove(t)
	x, y := b.open("/f", rw), b.open("/f", r)
	p := make([]byte, 5)
	if n, err := x.Read(p); n != 5 || err != nil || string(p) != "bytes" {
		t.Errorf("P22.3: %q, %v", p[:n], err)
	}
	if n, err := x.Write([]byte(" and ")); n != 5 || err != nil {
		t.Errorf("P22.4: %d, %v", n, err)
	}
	good(t, "Remove", b.Remove("/f"))
	all := make([]byte, 20)
	if n, err := y.Read(all); string(all[:n]) != "bytes and " || err != nil {
		t.Errorf("P22.3: %q, %v", all[:n], err)
	}
	good(t, "Close", x.Close())
	if _, err := y.Seek(0, api.FromStart); err != nil {
		t.Errorf("P22.5: %v", err)
	}
	if n, err := y.Read(all); string(all[:n]) != "bytes and " || err != nil {
		t.Errorf("P22.3: behind the other's Close: %q, %v", all[:n], err)
	}
	good(t, "Close", y.Close())
	b.right("the last Close")
}

// The numbers of the table beneath are those of the files: one that is closed there is ErrFd here, which is ErrClosed.
func TestNumberClosedBelow(t *testing.T) {
	b := grove(t)
	x := b.open("/f", rw)
	b.table.Close(b.table.Numbers()[0])
	n, err := x.Read(make([]byte, 3))
	fails(t, err, "read", "/f", 210)
	if n != 0 {
		t.Errorf("W2: %d beside an error", n)
	}
	_, err = x.Write([]byte("x"))
	fails(t, err, "write", "/f", 210)
	_, err = x.Write(nil)
	fails(t, err, "write", "/f", 210)
	k, err := x.Seek(0, api.FromStart)
	fails(t, err, "seek", "/f", 210)
	if k != 0 {
		t.Errorf("W2: %d beside an error", k)
	}
	fails(t, x.Close(), "close", "/f", 210)
	isClosed(t, x.Close(), "close", "/f")
}
