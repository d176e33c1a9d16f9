package check

import (
	"strconv"
	"strings"

	"bole/api"
)

// form is how findings of a Kind are told: a word, and which fields follow it.
type form struct {
	word               string
	inode, block, name bool
}

// forms are by their Kinds; the first one is that of all Kinds that are none.
var forms = [...]form{
	0:               {word: "?"},
	api.FindSuper:   {word: "super"},
	api.FindHead:    {word: "head"},
	api.FindMeta:    {word: "meta", block: true},
	api.FindRecord:  {word: "record", inode: true},
	api.FindPointer: {word: "pointer", inode: true, block: true},
	api.FindTwice:   {word: "twice", inode: true, block: true},
	api.FindTaken:   {word: "taken", block: true},
	api.FindFree:    {word: "free", block: true},
	api.FindTail:    {word: "tail", inode: true, block: true},
	api.FindCell:    {word: "cell", inode: true, block: true},
	api.FindName:    {word: "name", inode: true, name: true},
	api.FindNone:    {word: "none", inode: true, name: true},
	api.FindParent:  {word: "parent", inode: true, name: true},
	api.FindLost:    {word: "lost", inode: true},
	api.FindLinks:   {word: "links", inode: true},
	api.FindDeep:    {word: "deep", inode: true, name: true},
	api.FindText:    {word: "text", inode: true},
	api.FindOrphan:  {word: "orphan", inode: true},
}

func formOf(kind int) form {
	if kind < 0 || kind >= len(forms) {
		kind = 0
	}
	return forms[kind]
}

const digits = "0123456789abcdef"

// isPlain tells whether a byte of a name stands as it is: all those that could be taken for a blank, a line's end or the mark of another byte do not.
func isPlain(c byte) bool { return ' ' < c && c <= '~' && c != '\\' }

// quoted is a name as it is told.
func quoted(name string) string {
	var b strings.Builder
	for i := range len(name) {
		c := name[i]
		if isPlain(c) {
			b.WriteByte(c)
			continue
		}
		b.WriteString(`\x`)
		b.WriteByte(digits[c>>4])
		b.WriteByte(digits[c&0xF])
	}
	return b.String()
}

func words(f api.Finding) []string {
	as := formOf(f.Kind)
	l := []string{as.word}
	if as.inode {
		l = append(l, strconv.Itoa(f.Inode))
	}
	if as.block {
		l = append(l, strconv.Itoa(f.Block))
	}
	if as.name {
		l = append(l, quoted(f.Name))
	}
	return l
}

// Print tells findings as lines.
func Print(l []api.Finding) string {
	var b strings.Builder
	for _, f := range l {
		b.WriteString(strings.Join(words(f), " "))
		b.WriteByte('\n')
	}
	return b.String()
}
