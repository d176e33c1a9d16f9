package vfs_test

import (
	"slices"
	"strings"
	"sync"
	"testing"
	"unsafe"

	"bole/api"
	"bole/vfs"
)

// loose is a text whose bytes can be changed behind the back of who has it.
func loose(s string) (string, []byte) {
	b := []byte(s)
	return unsafe.String(unsafe.SliceData(b), len(b)), b
}

func spoil(b []byte) {
	for i := range b {
		b[i] = '#'
	}
}

// W3: texts that are handed in are neither kept nor changed.
func TestArgumentsAreNotKept(t *testing.T) {
	type arguments struct{ path, other, data string }
	for name, do := range map[string]func(b *box, a arguments){
		"create":   func(b *box, a arguments) { b.does(create(a.path)) },
		"mkdir":    func(b *box, a arguments) { b.does(mkdir(a.path)) },
		"symlink":  func(b *box, a arguments) { b.does(symlink(a.other, a.path)) },
		"link":     func(b *box, a arguments) { b.does(link("/f", a.path)) },
		"rename":   func(b *box, a arguments) { b.does(rename("/f", a.path)) },
		"renameAs": func(b *box, a arguments) { b.does(renameAs("/f", a.path, true)) },
		"open":     func(b *box, a arguments) { b.does(open(a.path, true, true)) },
		"write":    func(b *box, a arguments) { b.does(write("/f", 100, a.data)) },
		"writeAt":  func(b *box, a arguments) { b.does(writeAt(2, 100, a.data)) },
	} {
		path, p := loose("/d/name of it")
		other, o := loose("../text/of/a/link")
		data, d := loose(rep("0123456789", 200))
		b := fresh(t, 128)
		b.does(create("/f"), mkdir("/d"))
		do(b, arguments{path, other, data})
		if string(p) != "/d/name of it" || string(o) != "../text/of/a/link" || string(d) != rep("0123456789", 200) {
			t.Errorf("W3: %s changes what it was handed", name)
		}
		before := sight(b)
		spoil(p)
		spoil(o)
		spoil(d)
		if after := sight(b); after != before || sight(b.copy()) != before {
			t.Errorf("W3: %s keeps what it was handed:\n%s\n%s", name, before, after)
		}
	}
}

// spoilText writes over the bytes of a text that was answered.
func spoilText(s string) {
	if s != "" {
		spoil(unsafe.Slice(unsafe.StringData(s), len(s)))
	}
}

func cloneAll(l []string) []string {
	m := slices.Clone(l)
	for i, s := range m {
		m[i] = strings.Clone(s)
	}
	return m
}

// P20.9, W3: what is answered is new memory: written over by the caller, it changes neither the file system nor another answer.
func TestAnswersAreNew(t *testing.T) {
	b := fresh(t, 128)
	// No text of one byte: those stand once in a Go program, where nobody can write over them.
	b.does(mkdir("/dir"), create("/file"), write("/file", 600, pattern(2000)), symlink("dir", "/link"), create("/dir/aa"), create("/dir/ab"), symlink("../file", "/dir/link"))
	before := sight(b)
	for _, p := range []op{readdir("/dir"), readdir("/"), readlink("/link"), readlink("/dir/link"), read("/file", 0, 16384), readAt(3, 500, 200), readAt(3, 0, 7000)} {
		first, second := p.on(b), p.on(b)
		kept := p.on(b)
		kept.a.Names = cloneAll(kept.a.Names)
		kept.a.Data, kept.text = strings.Clone(kept.a.Data), strings.Clone(kept.text)
		for i, name := range first.a.Names {
			others := slices.Delete(slices.Clone(first.a.Names), i, i+1)
			were := cloneAll(others)
			spoilText(name)
			if !slices.Equal(others, were) {
				t.Errorf("P20.9: two names of one answer of %v share memory", p)
			}
		}
		names := first.a.Names[:cap(first.a.Names)]
		for i := range names {
			names[i] = "written over"
		}
		spoilText(first.a.Data)
		spoilText(first.text)
		if !same(second, kept) {
			t.Errorf("P20.9: two answers of %v share memory", p)
		}
		if third := p.on(b); !same(third, kept) {
			t.Errorf("P20.9: an answer of %v lies in the file system", p)
		}
		if sight(b) != before {
			t.Errorf("P20.9: an answer of %v, written over, changes the file system", p)
		}
	}
}

// changes are calls that leave nothing as it was in the wood.
var changes = []op{
	write("/f", 0, pattern(3000)), unlink("/d/s"), rename("/d", "/e"), rename("/e/g", "/g"), truncate("/f", 10), writeAt(8, 0, "ALONE"), create("/e/new"), unlink("/l"), mkdir("/l"), symlink("new text", "/d"),
	write("/g", 70656, "far"), unlink("/g"), unlinkAs("/f", true), release(3), release(8),
}

// P20.9: names and bytes that were told stay as they were when the file system changes.
func TestAnswersStay(t *testing.T) {
	b := wood(t, 128)
	names := b.Do(readdir("/d").c).Names
	data := b.Do(read("/f", 0, 2000).c).Data
	text := b.Do(readlink("/d/s").c).Data
	at, _ := b.ReadAt(8, 0, 1000)
	told := func() string { return strings.Join(append(slices.Clone(names), data, text, at), "\x01") }
	was := strings.Clone(told())
	b.does(changes...)
	if told() != was {
		t.Errorf("P20.9: what was told has changed with the file system")
	}
	b.right("changes")
}

// W5: what is answered hangs on nothing else: many file systems at one time, none sees another.
func TestManyAtOnce(t *testing.T) {
	image := wood(t, 128).d.Image()
	grown := func() string {
		d := disk(t, image)
		f, e := vfs.Mount(d)
		if e != api.OK {
			return "no mount"
		}
		for _, p := range changes {
			p.on(f)
		}
		return sight(f) + string(d.Image())
	}
	want := grown()
	answers := make([]string, 8)
	var all sync.WaitGroup
	for i := range answers {
		all.Go(func() { answers[i] = grown() })
	}
	all.Wait()
	for _, s := range answers {
		if s != want {
			t.Errorf("W5: a file system beside others is another one")
		}
	}
}
