package check_test

import (
	"fmt"
	"math"
	"slices"
	"strconv"
	"strings"
	"testing"

	"bole/api"
	"bole/check"
)

// prints holds what a finding is told as.
func prints(t *testing.T, f api.Finding, want string) {
	t.Helper()
	if s := check.Print([]api.Finding{f}); s != want {
		t.Errorf("P19.3: %v is told as %q, want %q", f, s, want)
	}
}

// P19.3: each Kind has its word and its fields, and no others, whatever those hold.
func TestPrintKinds(t *testing.T) {
	lines := []string{
		"super", "head", "meta 5", "record 4", "pointer 4 5", "twice 4 5", "taken 5", "free 5", "tail 4 5", "cell 4 5",
		"name 4 x", "none 4 x", "parent 4 x", "lost 4", "links 4", "deep 4 x", "text 4", "orphan 4",
	}
	for i, line := range lines {
		prints(t, api.Finding{Kind: i + 1, Inode: 4, Block: 5, Name: "x"}, line+"\n")
		zero := strings.NewReplacer("4", "0", "5", "0", " x", " ").Replace(line)
		prints(t, api.Finding{Kind: i + 1}, zero+"\n")
	}
	if api.FindOrphan != len(lines) {
		t.Errorf("the last Kind is %d", api.FindOrphan)
	}
	for word, shape := range shapes {
		if lines[shape.kind-1] != word && !strings.HasPrefix(lines[shape.kind-1], word+" ") {
			t.Errorf("the Kind %d is %s", shape.kind, word)
		}
	}
}

// P19.3: Kinds that are none.
func TestPrintNoKinds(t *testing.T) {
	for _, kind := range []int{0, -1, -18, 19, 20, 99, 256, 257, 1 << 32, 1<<32 + 1, math.MinInt, math.MinInt + 1, math.MaxInt} {
		prints(t, api.Finding{Kind: kind, Inode: 4, Block: 5, Name: "x"}, "?\n")
		prints(t, api.Finding{Kind: kind}, "?\n")
	}
}

// P19.3: numbers in decimal, also such as no image has.
func TestPrintNumbers(t *testing.T) {
	for _, n := range []int{0, 1, 9, 10, 101, 2047, 16383, 1<<32 - 1, -1, -10, math.MinInt, math.MaxInt} {
		s := strconv.Itoa(n)
		prints(t, api.Finding{Kind: 3, Block: n, Inode: 7}, "meta "+s+"\n")
		prints(t, api.Finding{Kind: 9, Block: n, Inode: 7}, "tail 7 "+s+"\n")
		prints(t, api.Finding{Kind: 9, Block: 7, Inode: n}, "tail "+s+" 7\n")
		prints(t, api.Finding{Kind: 13, Name: "a", Inode: n}, "parent "+s+" a\n")
		prints(t, api.Finding{Kind: 18, Inode: n}, "orphan "+s+"\n")
	}
}

// P19.3: each byte of a Name by itself, all of them, and rows of any.
func TestPrintNames(t *testing.T) {
	quoted := func(c int) string {
		if 33 <= c && c <= 126 && c != 92 {
			return string(rune(c))
		}
		return fmt.Sprintf("\\x%02x", c)
	}
	var all, want []string
	for c := range 256 {
		name := string([]byte{byte(c)})
		all, want = append(all, name), append(want, quoted(c))
		for _, kind := range []int{11, 12, 13, 16} {
			word := map[int]string{11: "name", 12: "none", 13: "parent", 16: "deep"}[kind]
			prints(t, api.Finding{Kind: kind, Inode: 1, Name: name}, word+" 1 "+quoted(c)+"\n")
			prints(t, api.Finding{Kind: kind, Inode: 1, Name: "a" + name + "b"}, word+" 1 a"+quoted(c)+"b\n")
		}
	}
	prints(t, api.Finding{Kind: 11, Inode: 1, Name: strings.Join(all, "")}, "name 1 "+strings.Join(want, "")+"\n")
	for name, s := range map[string]string{
		"":             "",
		" ":            `\x20`,
		"a b\n":        `a\x20b\x0a`,
		`\`:            `\x5c`,
		`\x20`:         `\x5cx20`,
		"\x00":         `\x00`,
		"\x7f":         `\x7f`,
		"\xff":         `\xff`,
		"!~":           "!~",
		"ä":            `\xc3\xa4`,
		"\t\r":         `\x09\x0d`,
		"/":            "/",
		"\xab\xcd\xef": `\xab\xcd\xef`,
	} {
		prints(t, api.Finding{Kind: 12, Inode: 3, Name: name}, "none 3 "+s+"\n")
	}
}

// P19.3: a line for each, in their order.
func TestPrintRows(t *testing.T) {
	if s := check.Print(nil); s != "" {
		t.Errorf("P19.3: of none %q", s)
	}
	if s := check.Print([]api.Finding{}); s != "" {
		t.Errorf("P19.3: of an empty list %q", s)
	}
	lines := []string{"links 3", "super", "name 1 a", "name 1 a", "orphan 2", "meta 0"}
	if s := check.Print(findings(lines)); s != strings.Join(lines, "\n")+"\n" {
		t.Errorf("P19.3: %q", s)
	}
	many := slices.Repeat([]api.Finding{{Kind: 7, Block: 5}}, 100000)
	if s := check.Print(many); s != rep("taken 5\n", 100000) {
		t.Errorf("P19.3: many lines: %d bytes", len(s))
	}
}

// P19.2: whether every finding is of an orphan.
func TestClean(t *testing.T) {
	orphan := api.Finding{Kind: 18, Inode: 2}
	for _, l := range [][]api.Finding{nil, {}, {orphan}, {orphan, orphan, orphan}, {{Kind: 18}}, {{Kind: 18, Inode: -1, Block: 5, Name: "x"}}} {
		if !check.Clean(l) {
			t.Errorf("P19.2: %v isn't clean", l)
		}
	}
	for _, kind := range []int{1, 2, 3, 4, 5, 6, 7, 8, 9, 10, 11, 12, 13, 14, 15, 16, 17, 0, -1, -18, 19, 20, 256 + 18, 1<<32 + 18, math.MinInt, math.MaxInt} {
		other := api.Finding{Kind: kind}
		for _, l := range [][]api.Finding{{other}, {orphan, other}, {other, orphan}, {orphan, other, orphan}, {other, other}} {
			if check.Clean(l) {
				t.Errorf("P19.2: %v is clean", l)
			}
		}
	}
}
