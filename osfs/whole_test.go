package osfs_test

import (
	"bytes"
	"testing"

	"bole/api"
)

// lengths are those at which something may be otherwise.
func lengths() []int {
	const m = api.MaxIO
	return []int{0, 1, 2, 511, 512, 513, 5120, 5121, m - 1, m, m + 1, 2*m - 1, 2 * m, 2*m + 1, 3 * m, 5*m + 123}
}

// readsAll makes a ReadFile that is to answer these bytes.
func (b *desk) readsAll(name string, want []byte) {
	b.t.Helper()
	before, open := b.steps(), len(b.table.Numbers())
	got, err := b.ReadFile(name)
	if err != nil || !bytes.Equal(got, want) {
		b.t.Errorf("P22.6: ReadFile(%q): %s, %v, want %s", name, short(got), err, short(want))
	}
	if b.steps() != before {
		b.t.Errorf("P22.6: ReadFile has steps")
	}
	b.numbers(open)
}

// readFails makes a ReadFile that is to be refused.
func (b *desk) readFails(op, name string, e api.Errno) {
	b.t.Helper()
	open := len(b.table.Numbers())
	got, err := b.ReadFile(name)
	fails(b.t, err, op, name, e)
	if len(got) > 0 {
		b.t.Errorf("P22.6: ReadFile(%q): %s beside an error", name, short(got))
	}
	b.numbers(open)
}

// P22.6: files of all lengths, each held by the calls below.
func TestReadFile(t *testing.T) {
	b := fresh(t, 1024)
	for _, n := range lengths() {
		all := b.long("/f", n)
		b.readsAll("/f", all)
		b.readsAll("//f/.", all)
		good(t, "Remove", b.Remove("/f"))
	}
	b.lays("/d/", "/d/f=within", "/l>d/f", "/ld>d", "/gone>none", "/round>round")
	b.readsAll("/l", []byte("within"))
	b.readsAll("/ld/f", []byte("within"))
	b.readsAll("/d/../l", []byte("within"))
	b.readFails("open", "/d", 170)
	b.readFails("open", "/", 170)
	b.readFails("open", "/ld", 170)
	b.readFails("open", "/none", 160)
	b.readFails("open", "/gone", 160)
	b.readFails("open", "/none/f", 160)
	b.readFails("open", "/round", 162)
	b.readFails("open", "/d/f/x", 161)
	b.readFails("open", "", 1)
	b.readFails("open", "f", 1)
	b.readFails("open", "/"+rep("x", 28), 130)
}

// P22.6: holes are zeros, up to the greatest length of a file.
func TestReadFileHoles(t *testing.T) {
	b := fresh(t, 256)
	for _, n := range []int{700, api.MaxIO, api.MaxIO + 1, 1 << 20, api.MaxFile - 1, api.MaxFile} {
		b.lays("/f=begin")
		b.table.Do(api.Call{Kind: api.CallWrite, Path: "/f", Offset: n - 3, Data: "end"})
		want := make([]byte, n)
		copy(want, "begin")
		copy(want[n-3:], "end")
		b.readsAll("/f", want)
		good(t, "Remove", b.Remove("/f"))
	}
}

// P22.6: ReadFile that is refused behind the Open: none of the bytes, the first error, and the file is closed.
func TestReadFileRefused(t *testing.T) {
	const m = api.MaxIO
	b := fresh(t, 1024)
	b.long("/f", 6*m)
	b.spoils("/f", noTables) // the fifth Read is refused, and the Close too
	b.readFails("read", "/f", 100)

	b = fresh(t, 1024)
	b.long("/f", 3000)
	b.spoils("/f", noTables) // all Reads are taken, and the Close is refused
	b.readFails("close", "/f", 100)

	b = fresh(t, 128).lays("/f=")
	b.spoils("/f", noTables)
	b.readFails("close", "/f", 100)

	b = fresh(t, 128).lays("/f=bytes")
	x := b.open("/f", r)
	b.spoils("/f", noTables) // the Close has nothing to ask while another number is open
	b.readsAll("/f", []byte("bytes"))
	fails(t, x.Close(), "close", "/f", 100)

	b = fresh(t, 128).lays("/f=bytes")
	b.open("/f", r)
	b.spoils("/f", func(x *api.Inode) { x.Direct[0] = 2 })
	b.readFails("read", "/f", 100)

	b = fresh(t, 128).lays("/f=bytes")
	b.d.Crash(nil)
	b.readFails("open", "/f", 30)
	b.readFails("open", "/none", 30)
	b.readFails("open", "none", 1)
}

// P22.6: with fifteen numbers open both calls go on; with sixteen none of them.
func TestWholeFilesWantANumber(t *testing.T) {
	b := fresh(t, 128).lays("/f=bytes")
	for range 15 {
		b.open("/f", r)
	}
	b.readsAll("/f", []byte("bytes"))
	good(t, "WriteFile", b.WriteFile("/g", []byte("more")))
	b.open("/f", r)
	b.readFails("open", "/f", 211)
	b.readFails("open", "/none", 211)
	before := b.steps()
	fails(t, b.WriteFile("/g", []byte("other")), "open", "/g", 211)
	fails(t, b.WriteFile("/new", nil), "open", "/new", 211)
	if b.steps() != before {
		t.Errorf("P22.6: WriteFile that is refused has steps")
	}
	b.stands("/f=bytes", "/g=more")
	b.numbers(16)
}

// P22.6: both calls have a place of their own, beside files that are open.
func TestWholeFilesBesideOpenOnes(t *testing.T) {
	b := fresh(t, 128).lays("/f=0123456789")
	x := b.open("/f", rw)
	x.Seek(4, api.FromStart)
	b.readsAll("/f", []byte("0123456789"))
	if place(t, x) != 4 {
		t.Errorf("P22.6: ReadFile moves another's place to %d", place(t, x))
	}
	good(t, "WriteFile", b.WriteFile("/f", []byte("abcdef")))
	reads(t, x, 9, []byte("ef"), nil)
	wrote(t, x, []byte("!"))
	b.readsAll("/f", []byte("abcdef!"))
	good(t, "Remove", b.Remove("/f"))
	b.readFails("open", "/f", 160)
	good(t, "WriteFile", b.WriteFile("/f", []byte("new")))
	b.readsAll("/f", []byte("new"))
	x.Seek(0, api.FromStart)
	reads(t, x, 9, []byte("abcdef!"), nil)
	good(t, "Close", x.Close())
	b.right("all Closes")
}

// P22.6, P22.11: WriteFile of all lengths onto files of all lengths, and where there is none: the bytes are just these, in as many Writes as there are pieces.
func TestWriteFile(t *testing.T) {
	const m = api.MaxIO
	b := fresh(t, 1024)
	for _, old := range []int{-1, 0, 1, 513, m, 2*m + 1} {
		for _, n := range lengths() {
			if old >= 0 {
				b.long("/f", old)
			}
			data := bytes.ToUpper(bytes.ReplaceAll(pattern(n), []byte(","), []byte("x")))
			kept := bytes.Clone(data)
			before := b.flushes()
			good(t, "WriteFile", b.WriteFile("/f", data))
			want := (n + m - 1) / m
			if old != 0 {
				want++ // a file is made, or cut
			}
			if got := b.flushes() - before; got != 4*want {
				t.Errorf("P22.6: WriteFile of %d bytes onto %d has %d flushes, want %d", n, old, got, 4*want)
			}
			if !bytes.Equal(data, kept) {
				t.Errorf("W3: WriteFile changes what it is handed")
			}
			b.numbers(0)
			b.holds("/f", data)
			b.readsAll("/f", data)
			good(t, "Remove", b.Remove("/f"))
		}
	}
	b.right("all WriteFiles")
}

// P22.6: WriteFile of what is no file, of a symbolic link, and of texts that are no paths.
func TestWriteFilePaths(t *testing.T) {
	b := fresh(t, 128).lays("/d/", "/d/f=within", "/l>d/f", "/ld>d", "/gone>none", "/round>round", "/n&/d/f")
	before := b.steps()
	for _, data := range [][]byte{nil, []byte("x"), pattern(3 * api.MaxIO)} {
		fails(t, b.WriteFile("/d", data), "open", "/d", 170)
		fails(t, b.WriteFile("/", data), "open", "/", 170)
		fails(t, b.WriteFile("/ld", data), "open", "/ld", 170)
		fails(t, b.WriteFile("/gone", data), "open", "/gone", 160)
		fails(t, b.WriteFile("/none/f", data), "open", "/none/f", 160)
		fails(t, b.WriteFile("/round", data), "open", "/round", 162)
		fails(t, b.WriteFile("/d/f/x", data), "open", "/d/f/x", 161)
		fails(t, b.WriteFile("/d/..", data), "open", "/d/..", 1)
		fails(t, b.WriteFile("", data), "open", "", 1)
		fails(t, b.WriteFile("/"+rep("x", 28), data), "open", "/"+rep("x", 28), 130)
	}
	if b.steps() != before {
		t.Errorf("P22.6: WriteFile that is refused has steps")
	}
	good(t, "WriteFile", b.WriteFile("/l", []byte("through")))
	b.stands("/d/", "/d/f=through", "/gone>none", "/l>d/f", "/ld>d", "/n=through", "/round>round")
	good(t, "WriteFile", b.WriteFile("/ld/new/", []byte("one more")))
	good(t, "WriteFile", b.WriteFile("/n", nil))
	b.stands("/d/", "/d/f=", "/d/new=one more", "/gone>none", "/l>d/f", "/ld>d", "/n=", "/round>round")
	b.numbers(0)
}

// P22.6, W2: WriteFile that is refused for want of room: what was there is cut, the pieces that were taken stay, and no number is open.
func TestWriteFileNoRoom(t *testing.T) {
	const m = api.MaxIO
	for _, c := range []struct{ blocks, n, stays int }{{128, m, 0}, {128, 3 * m, 0}, {160, 2 * m, m}, {256, 10 * m, 4 * m}} {
		for _, old := range []string{"", "old bytes"} {
			b := fresh(t, c.blocks)
			if old != "" {
				b.lays("/f=" + old)
			}
			fails(t, b.WriteFile("/f", pattern(c.n)), "write", "/f", 90)
			b.numbers(0)
			b.readsAll("/f", pattern(c.n)[:c.stays])
			b.right("a WriteFile")
		}
	}
	b := fresh(t, 128)
	for i := range 14 {
		good(t, "WriteFile", b.WriteFile("/"+string(rune('a'+i)), nil))
	}
	fails(t, b.WriteFile("/one more", []byte("x")), "open", "/one more", 90)
	b.numbers(0)
}

// P22.6: a Close that is refused behind Writes that weren't, or behind none.
func TestWriteFileCloseRefused(t *testing.T) {
	for _, data := range []string{"", "bytes"} {
		b := fresh(t, 128).lays("/f=")
		b.spoils("/f", noTables)
		fails(t, b.WriteFile("/f", []byte(data)), "close", "/f", 100)
		b.numbers(0)
	}
	// Of two errors the first one.
	b := fresh(t, 128).lays("/f=")
	b.spoils("/f", noTables)
	fails(t, b.WriteFile("/f", pattern(3*api.MaxIO)), "write", "/f", 90)
	b.numbers(0)
}

// P22.6, P0.2: the power goes at each step of a WriteFile: the first error, no number is open, and behind a mount the file is as it was, not made, empty, or some whole pieces.
func TestPowerGoesInWriteFile(t *testing.T) {
	const m = api.MaxIO
	data := pattern(2*m + 1000)
	for _, old := range []string{"", "old bytes"} {
		start := fresh(t, 512)
		if old != "" {
			start.lays("/f=" + old)
		}
		image := start.d.Image()
		seen := map[string]int{}
		for at := 1; ; at++ {
			b := opened(t, image)
			b.d.Arm(api.Crash{At: at, Keep: []bool{at%2 == 0, true, at%5 == 0, true}})
			err := b.WriteFile("/f", data)
			b.numbers(0)
			if !b.d.Down() {
				good(t, "WriteFile", err)
				break
			}
			c := b.twin()
			c.right("a mount")
			st := c.call(api.CallLstat, "/f", "")
			got := c.bytes("/f")
			switch op := opOf(err); {
			case st.Err == api.ErrNone && op == "open" && old == "":
				seen["not made"]++
			case string(got) == old && op == "open":
				seen["as it was, or made"]++
			case len(got) == 0 && op == "open":
				seen["cut"]++
			case op == "write" && bytes.Equal(got, data[:len(got)]) && (len(got)%m == 0 || len(got) == len(data)):
				seen["some of it"]++
			default:
				t.Errorf("P22.6: the power goes at the step %d: %v, and the file has %s", at, err, short(got))
			}
			fails(t, err, opOf(err), "/f", 30)
		}
		want := []string{"as it was, or made", "some of it", "not made"}
		if old != "" {
			want[2] = "cut"
		}
		for _, k := range want {
			if seen[k] == 0 {
				t.Errorf("no power cut left the file %s: %v", k, seen)
			}
		}
	}
}
