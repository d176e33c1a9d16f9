package ram_test

import (
	"slices"
	"strings"
	"sync"
	"testing"
	"unsafe"

	"bole/api"
	"bole/ram"
)

// loose is a text whose bytes can be changed behind the back of who has it.
func loose(s string) (string, []byte) {
	b := []byte(s)
	return unsafe.String(unsafe.SliceData(b), len(b)), b
}

func spoil(b []byte) {
	for i := range b {
		b[i] = '#'
	}
}

// P18.2, W3: texts that are handed in are neither kept nor changed.
func TestArgumentsAreNotKept(t *testing.T) {
	type arguments struct{ path, other, data string }
	for name, do := range map[string]func(b *box, a arguments){
		"create":   func(b *box, a arguments) { b.does(create(a.path)) },
		"mkdir":    func(b *box, a arguments) { b.does(mkdir(a.path)) },
		"symlink":  func(b *box, a arguments) { b.does(symlink(a.other, a.path)) },
		"link":     func(b *box, a arguments) { b.does(link("/f", a.path)) },
		"rename":   func(b *box, a arguments) { b.does(rename("/f", a.path)) },
		"renameAs": func(b *box, a arguments) { b.does(renameAs("/f", a.path, true)) },
		"open":     func(b *box, a arguments) { b.does(open(a.path, true, true)) },
		"write":    func(b *box, a arguments) { b.does(write("/f", 100, a.data)) },
		"writeAt":  func(b *box, a arguments) { b.does(writeAt(2, 100, a.data)) },
	} {
		path, p := loose("/d/name of it")
		other, o := loose("../text/of/a/link")
		data, d := loose(rep("0123456789", 200))
		b := fresh(t, 128)
		b.does(create("/f"), mkdir("/d"))
		do(b, arguments{path, other, data})
		if string(p) != "/d/name of it" || string(o) != "../text/of/a/link" || string(d) != rep("0123456789", 200) {
			t.Errorf("W3: %s changes what it was handed", name)
		}
		before := sight(b)
		spoil(p)
		spoil(o)
		spoil(d)
		if after := sight(b); after != before {
			t.Errorf("W3: %s keeps what it was handed:\n%s\n%s", name, before, after)
		}
	}
}

// spoilText writes over the bytes of a text that was answered.
func spoilText(s string) {
	if s != "" {
		spoil(unsafe.Slice(unsafe.StringData(s), len(s)))
	}
}

// P18.6: what is answered is new memory: written over by the caller, it changes neither the tree nor another answer.
func TestAnswersAreNew(t *testing.T) {
	b := wood(t, 128)
	b.does(create("/d/a"), create("/d/b"))
	before := sight(b)
	for _, p := range []op{readdir("/d"), readdir("/"), readlink("/l"), readlink("/d/s"), read("/f", 0, 16384), readAt(8, 600, 200), readAt(4, 0, 7000)} {
		first, second := p.on(b), p.on(b)
		kept := p.on(b)
		kept.a.Names = cloneAll(kept.a.Names)
		kept.a.Data, kept.text = strings.Clone(kept.a.Data), strings.Clone(kept.text)
		for _, name := range first.a.Names {
			spoilText(name)
		}
		names := first.a.Names[:cap(first.a.Names)]
		for i := range names {
			names[i] = "written over"
		}
		spoilText(first.a.Data)
		spoilText(first.text)
		if !same(second, kept) {
			t.Errorf("P18.6: two answers of %v share memory", p)
		}
		if third := p.on(b); !same(third, kept) {
			t.Errorf("P18.6: an answer of %v lies in the tree", p)
		}
		if sight(b) != before {
			t.Errorf("P18.6: an answer of %v, written over, changes the tree", p)
		}
	}
}

func cloneAll(l []string) []string {
	m := slices.Clone(l)
	for i, s := range m {
		m[i] = strings.Clone(s)
	}
	return m
}

// P18.6: names that were told stay as they were when the tree changes.
func TestAnswersStay(t *testing.T) {
	b := wood(t, 128)
	names := b.Do(readdir("/d").c).Names
	data := b.Do(read("/f", 0, 100).c).Data
	text, _ := b.ReadAt(8, 0, 1000)
	was := []string{strings.Join(names, " "), strings.Clone(data), strings.Clone(text)}
	for _, p := range changes {
		p.on(b)
	}
	if now := []string{strings.Join(names, " "), data, text}; !slices.Equal(now, was) {
		t.Errorf("P18.6: what was told has changed with the tree: %q, want %q", now, was)
	}
}

// W5: what is answered hangs on nothing else: many trees at one time, none sees another.
func TestManyAtOnce(t *testing.T) {
	want := sight(grown(t))
	answers := make([]string, 8)
	var all sync.WaitGroup
	for i := range answers {
		all.Add(1)
		go func() {
			defer all.Done()
			f, _ := ram.New(128)
			b := &box{t, f}
			for _, p := range changes {
				p.on(b)
				ram.Takes([]int{i, 10 * i, 200 * i})
				ram.Bound(p.c)
			}
			answers[i] = sight(b)
		}()
	}
	all.Wait()
	for _, s := range answers {
		if s != want {
			t.Errorf("W5: a tree beside others is another one:\n%s\n%s", want, s)
		}
	}
}

func grown(t *testing.T) *box {
	b := fresh(t, 128)
	for _, p := range changes {
		p.on(b)
	}
	return b
}

// The face is that of a caller (api.Caller).
func TestCaller(t *testing.T) {
	var c api.Caller = fresh(t, 128).FS
	if a := c.Do(create("/f").c); a.N != 2 {
		t.Errorf("P18.2: through api.Caller Create answers %+v", a)
	}
}
