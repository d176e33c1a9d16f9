package calls_test

import (
	"fmt"
	"math/big"
	"regexp"
	"strconv"
	"strings"

	"bole/api"
)

// The chapter's words said plainly, by expressions of the library: what the calls answer is held against them.

// plainRow is a row as the chapter's table has it.
type plainRow struct {
	kind      int
	row, told string
}

func plainRows() []plainRow {
	return []plainRow{
		{api.CallCreate, "create PATH", "N"},
		{api.CallMkdir, "mkdir PATH", "N"},
		{api.CallRead, "read PATH OFFSET SIZE", "DATA"},
		{api.CallWrite, "write PATH OFFSET DATA", "N"},
		{api.CallTruncate, "truncate PATH SIZE", "ok"},
		{api.CallUnlink, "unlink PATH", "ok"},
		{api.CallRmdir, "rmdir PATH", "ok"},
		{api.CallRename, "rename PATH OTHER", "ok"},
		{api.CallLink, "link PATH OTHER", "ok"},
		{api.CallSymlink, "symlink OTHER PATH", "N"},
		{api.CallReadlink, "readlink PATH", "DATA"},
		{api.CallStat, "stat PATH", "STAT"},
		{api.CallLstat, "lstat PATH", "STAT"},
		{api.CallReaddir, "readdir PATH", "NAMES"},
		{api.CallRoom, "room", "ROOM"},
	}
}

// plainRowOf is the row of a Kind.
func plainRowOf(kind int) (plainRow, bool) {
	for _, r := range plainRows() {
		if r.kind == kind {
			return r, true
		}
	}
	return plainRow{}, false
}

// places are the words in capitals of a row.
func (r plainRow) places() []string { return strings.Fields(r.row)[1:] }

// command is the word ahead of them.
func (r plainRow) command() string { return strings.Fields(r.row)[0] }

const (
	bareText   = `[A-Za-z0-9/._-]+`
	quotedText = `"(?:[ !#-\[\]-~]|\\["\\]|\\x[0-9A-Fa-f][0-9A-Fa-f])*"`
	numberText = `0|-?[1-9][0-9]*`
)

var (
	bareWord   = regexp.MustCompile(`^(?:` + bareText + `)$`)
	quotedWord = regexp.MustCompile(`^(?:` + quotedText + `)$`)
	wholeRows  = rowTexts()
)

// rowTexts are the expressions of all rows, each by its Kind.
func rowTexts() map[int]*regexp.Regexp {
	word := `(` + bareText + `|` + quotedText + `)`
	number := `(` + numberText + `)`
	m := map[int]*regexp.Regexp{}
	for _, r := range plainRows() {
		s := strings.NewReplacer(" ", " +", "PATH", word, "OTHER", word, "DATA", word, "OFFSET", number, "SIZE", number).Replace(r.row)
		m[r.kind] = regexp.MustCompile(`^ *` + s + ` *$`)
	}
	return m
}

func plainQuote(s string) string {
	if bareWord.MatchString(s) {
		return s
	}
	w := []byte(`"`)
	for i := range len(s) {
		switch c := s[i]; {
		case c == '"':
			w = append(w, `\"`...)
		case c == '\\':
			w = append(w, `\\`...)
		case c >= 32 && c <= 126:
			w = append(w, c)
		default:
			w = fmt.Appendf(w, `\x%02x`, c)
		}
	}
	return string(w) + `"`
}

// plainUnquote reads a word: what a quoted one says Go's own texts say too.
func plainUnquote(w string) (string, bool) {
	if bareWord.MatchString(w) {
		return w, true
	}
	if !quotedWord.MatchString(w) {
		return "", false
	}
	s, err := strconv.Unquote(w)
	if err != nil {
		panic(err)
	}
	return s, true
}

// textField is the field that a word of a row says, and numberField the one that a number says; the other one is nil.
func textField(c *api.Call, place string) *string {
	return map[string]*string{"PATH": &c.Path, "OTHER": &c.Other, "DATA": &c.Data}[place]
}

func numberField(c *api.Call, place string) *int {
	return map[string]*int{"OFFSET": &c.Offset, "SIZE": &c.Size}[place]
}

// bare is a call with zero in what isn't its Kind's.
func bare(c api.Call) api.Call {
	r, ok := plainRowOf(c.Kind)
	if !ok {
		return api.Call{}
	}
	b := api.Call{Kind: c.Kind}
	for _, place := range r.places() {
		if f := textField(&b, place); f != nil {
			*f = *textField(&c, place)
		} else {
			*numberField(&b, place) = *numberField(&c, place)
		}
	}
	return b
}

func plainPrint(c api.Call) (string, bool) {
	r, ok := plainRowOf(c.Kind)
	if !ok {
		return "", false
	}
	line := r.command()
	for _, place := range r.places() {
		if f := textField(&c, place); f != nil {
			line += " " + plainQuote(*f)
		} else {
			line += " " + fmt.Sprint(*numberField(&c, place))
		}
	}
	return line, true
}

func plainParse(line string) (api.Call, bool) {
	for _, r := range plainRows() {
		words := wholeRows[r.kind].FindStringSubmatch(line)
		if words == nil {
			continue
		}
		c := api.Call{Kind: r.kind}
		for i, place := range r.places() {
			if f := textField(&c, place); f != nil {
				*f, _ = plainUnquote(words[1+i])
				continue
			}
			v, ok := new(big.Int).SetString(words[1+i], 10)
			if !ok || !v.IsInt64() {
				return api.Call{}, false
			}
			*numberField(&c, place) = int(v.Int64())
		}
		return c, true
	}
	return api.Call{}, false
}

// plainTold is what is told of a good answer, part by part.
func plainTold(kind int, a api.Answer) []string {
	r, _ := plainRowOf(kind)
	switch r.told {
	case "N":
		return []string{fmt.Sprint(a.N)}
	case "DATA":
		return []string{plainQuote(a.Data)}
	case "STAT":
		return []string{fmt.Sprint(a.Stat.Inode), fmt.Sprint(a.Stat.Kind), fmt.Sprint(a.Stat.Links), fmt.Sprint(a.Stat.Size), fmt.Sprint(a.Stat.Blocks)}
	case "ROOM":
		return []string{fmt.Sprint(a.Room.FreeBlocks), fmt.Sprint(a.Room.Blocks), fmt.Sprint(a.Room.FreeInodes), fmt.Sprint(a.Room.Inodes)}
	case "NAMES":
		s := fmt.Sprint(len(a.Names))
		for _, name := range a.Names {
			s += "\n" + plainQuote(name)
		}
		return []string{s}
	}
	return []string{"ok"}
}

func plainTell(c api.Call, a api.Answer) string {
	if a.Err != 0 {
		return fmt.Sprintf("! E%d", int(a.Err))
	}
	return strings.Join(plainTold(c.Kind, a), " ")
}
